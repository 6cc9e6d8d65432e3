/- RnD, RnCells, AppR, RnF, RnG, RnH, RunB, RnI, RnJ, DictQ, SortA, in one text. -/
import Derived.Test.YtgpmoimmpbkgfaaGreatDoorMrg8
import Derived.Test.YtgpmoimmpbkgfaaGreatDoorMrg5
import Derived.Test.YtgpmoimmpbkgfaaGreatDoorMrg2
import Derived.Test.YtgpmoimmpbkgfaaGreatDoorMrg7
import Derived.Test.YtgpmoimmpbkgfaaGreatDoorMrg3
import Derived.Test.YtgpmoimmpbkgfaaGreatDoorMrg4
import Derived.OwnWalk
import Derived.BigRegion
import Derived.Sort.AssemblyPlain

section
/- Layer 7: the program's Put. -/
set_option linter.unusedVariables false
namespace Go.Proofs.YtgpmoimmpbkgfaaGreatDoor
open Go Go.RowKit Go.Shelf
attribute [local go_sem] Oper.semAt_some

theorem isRun_of {W : World} {b : Nat} {x n : Int} {fz : Nat × Nat} (h : W.heap[b]? = some (.cells #[.int .u64 x, .int .i64 n] 149 fz)) : IsRun W b := ⟨x, n, fz, h⟩
theorem owns_not_run {W : World} {base : Nat} {e : TypeId} {sz : Nat} {v : Value} {n : Nat} {xs : List Value} (h : W.ownsRow base e sz v n xs) (he : e ≠ 149) {k : Nat} (hk : v.ownBlock = some k) : ¬ IsRun W k := by
  rintro ⟨x, m, fz, hr⟩
  rcases h.2 with ⟨rfl, _⟩ | ⟨g, cap, cur, rfl, _, hgb, _⟩
  · simp [Value.ownBlock] at hk
  · obtain rfl : g = k := by simpa [Value.ownBlock] using hk
    rw [hgb] at hr
    simp at hr
    exact he hr.2.1
theorem writer_not_run {W : World} {p : Nat} {v : Value} {out : List Bool} (h : WriterIn W p v out) : ∀ k, (k = p ∨ v.ownBlock = some k) → ¬ IsRun W k := by
  rintro k (rfl | hk)
  · rintro ⟨x, n, fz, hr⟩
    obtain ⟨t, ht⟩ := h.blk
    rw [ht] at hr
    simp at hr
  · exact owns_not_run h.own (by decide) hk
/-- Some values are put into an activation. -/
def RunBox (W : World) (b : Nat) (r : Rn) : Prop := W.heap[b]? = some (.cells #[.int .u64 (r.1.1 : Int), .int .i64 (r.1.2 : Int)] 149 (0, 0))
theorem RunBox.blk {W : World} {b : Nat} {r : Rn} (h : RunBox W b r) : Blk W b [.int .u64 (r.1.1 : Int), .int .i64 (r.1.2 : Int)] := ⟨_, h⟩
theorem RunBox.is {W : World} {b : Nat} {r : Rn} (h : RunBox W b r) : IsRun W b := isRun_of h
theorem runBox_own {β : Type} {B : Nat} (b : Nat) (r : Rn) : OwnFrom B (fun (_ : β) W => RunBox W b r) := fun _ W W' row h hg hr => (hg.block b (Array.getElem?_eq_some_iff.1 h).1 (row_other h (fun j e => (hr j e).2))).trans h

theorem runval_put_nilw (lv : Value) (l : List Nat) (w : World) (h : Rd w 1 lv l.length (u64s l)) : Calls Tryz.prog 52 #[.pointer none, lv] w fun e w' => e = .returned (.int .i64 1) ∧ Below w.heap.size w w' := by
  go_enter Tryz.func52, Tryz.ntmps52
  go_wp2_with fail
  go_ret
  exact ⟨rfl, (Below.refl _ _).alloc (Nat.le_refl _) _⟩

set_option maxRecDepth 100000 in
set_option maxHeartbeats 2000000 in
theorem runval_put (p : Nat) (v lv : Value) (bits : List Bool) (l : List Nat) (w : World) (hW : WriterIn w p v bits)
    (hl : Rd w 1 lv l.length (u64s l)) (hok : ∀ t ∈ l, in64u t) (hap : l ≠ [] → ∀ k, lv.ownBlock = some k → k ≠ p ∧ v.ownBlock ≠ some k) (hz : bits.length + 71 * l.length ≤ 70368744177000) :
    Calls Tryz.prog 52 #[.pointer (some ⟨p, 0, none⟩), lv] w fun e w' => e = .returned (.int .i64 0) ∧ BitsPost p v (bits ++ encR l) w w' := by
  obtain ⟨q, c, hv⟩ := hl.shape
  subst hv
  have HL := Lib.hid hl; have HOk := Lib.hid hok; have HW := Lib.hid hW; have HAp := Lib.hid hap
  have HZ : Hid (bits.length + 71 * (splitR l).length ≤ 70368744177000) := by show _ ≤ _; have := splitR_len l; omega
  have HLT : Hid (l ≠ [] → ∀ k, (Value.slice q l.length c).ownBlock = some k → k < w.heap.size) := fun h => hl.lt (fun e => h (by simpa [u64s] using e))
  clear hl hok hz hW hap
  refine (callsIn_wide (n := 9)).1 ?_
  refine callsIn_of_wp_marks Tryz.func52 rfl trivial ?_ rfl
  simp only [Tryz.ntmps52, List.size_toArray, List.length_cons, List.length_nil, Nat.reduceAdd, Nat.reduceSub, Array.replicate_succ, Array.replicate_zero, List.push_toArray, List.append_toArray, List.nil_append, List.cons_append]
  gi_wp2_with (refine ⟨trivial, ?_⟩; gi_at_call 85; refine (new_runs q _ c _ _).mono ?_; rintro e w' ⟨rfl, rfl⟩)
  obtain ⟨w1, hw1⟩ : ∃ w1, w.alloc (.cells #[.pointer (some ⟨p, 0, none⟩)] 64) = w1 := ⟨_, rfl⟩
  have hs1 : w1.heap.size = w.heap.size + 1 := by rw [← hw1]; simp
  have hB1 : Below w.heap.size w w1 := by rw [← hw1]; exact (Below.refl _ w).alloc (Nat.le_refl _) _
  have hx1 : Blk w1 w.heap.size [.pointer (some ⟨p, 0, none⟩)] := by rw [← hw1]; exact Blk.new w _ _
  rw [hw1]
  clear hw1
  obtain ⟨W0, hW0⟩ : ∃ W0, w1.alloc (.cells #[.slice q l.length c] 22) = W0 := ⟨_, rfl⟩
  have hs0 : W0.heap.size = w.heap.size + 2 := by rw [← hW0]; simp [hs1]
  have hB0 : Below w.heap.size w W0 := by rw [← hW0]; exact hB1.alloc (by omega) _
  have hX0 : Blk W0 w.heap.size [.pointer (some ⟨p, 0, none⟩)] := by rw [← hW0]; exact hx1.alloc _
  have hx0 : W0.cell? ⟨w.heap.size + 1, 0, none⟩ = some (.slice q l.length c) := by
    have := (Blk.new w1 #[.slice q l.length c] 22).cell 0
    rw [hW0, hs1] at this
    simpa using this
  rw [hW0]
  clear hW0
  have HPl : Hid (p < w.heap.size ∧ ∀ k, v.ownBlock = some k → k < w.heap.size) := ⟨HW.out.blk.lt, owns_lt HW.out.own⟩
  have HX0 := Lib.hid hX0; have HB0 := Lib.hid hB0; have HS0 := Lib.hid hs0
  have HW0 := Lib.hid (HW.out.below hB0)
  have HKW : Hid (∀ k, (k = w.heap.size + 1 ∨ (l ≠ [] ∧ (Value.slice q l.length c).ownBlock = some k)) → k ≠ p ∧ v.ownBlock ≠ some k ∧ k < W0.heap.size) := fun k hk => by
    have h1 := HPl.out.1
    rcases hk with e | ⟨h, e⟩
    · exact ⟨by omega, fun e2 => by have := HPl.out.2 _ e2; omega, by omega⟩
    · have := HLT.out h k e
      exact ⟨(HAp.out h k e).1, (HAp.out h k e).2, by omega⟩
  have HGV := Lib.hid (runs_gives 8 (by omega) (w.heap.size + 1) _ l W0 hx0 (HL.out.below hB0) HOk.out)
  clear hx0 hX0 hx1 hB1 hB0 hs0 hs1
  obtain ⟨K, hK⟩ : ∃ K : Nat → Prop, (fun k => k = w.heap.size + 1 ∨ (l ≠ [] ∧ (Value.slice q l.length c).ownBlock = some k)) = K := ⟨_, rfl⟩
  have HKW2 : Hid (∀ k, K k → k ≠ p ∧ v.ownBlock ≠ some k ∧ k < W0.heap.size) := by rw [← hK]; exact HKW.out
  rw [hK] at HGV
  clear hK HKW
  have HXn : Hid (¬ (w.heap.size = p ∨ v.ownBlock = some w.heap.size)) := fun e => by
    have h1 := HPl.out
    rcases e with e | e
    · omega
    · have := h1.2 _ e; omega
  have HE : Hid (encR l = (splitR l).flatMap encRun) := rfl
  generalize splitR l = rs at *
  refine wpIn_rangeFunc_ownH rfl (by omega) (gf := 105) (lb := #[.pointer (some ⟨w.heap.size + 1, 0, none⟩)]) rfl trivial (enters_of Tryz.func105 (by kernel_rfl) rfl)
    HGV.out (fun h k => keepRun_t h k) (fun W l o o' h1 h2 h3 h4 => keepRun_b (fun k hk => (HKW2.out k hk).2.2) W l o o' h1 h2 h3 h4) (Below.refl _ _) (fun _ => rfl)
    (fun pre W => PutIn p v W0 (bits ++ (rnsOf pre).flatMap encRun) W)
    (fun _ _ _ => False)
    (putIn_own (Nat.le_refl _) p v (fun pre : List Rn => bits ++ (rnsOf pre).flatMap encRun))
    (fun _ _ _ _ _ hs _ _ => hs)
    ⟨v, by simpa [rnsOf] using HW0.out, Upd.refl _ _ _⟩
    (fun x a' W => ∃ b, a' = { tmps := #[.pointer (some ⟨p, 0, none⟩), .slice q l.length c, .pointer (some ⟨w.heap.size, 0, none⟩), undef, .int .i64 0, .pointer (some ⟨b, 0, none⟩), .pointer (some ⟨p, 0, none⟩), .bool false, .slice q l.length c, .func (.func 105) #[] #[.pointer (some ⟨w.heap.size + 1, 0, none⟩)], runV x, undef, undef, undef, undef, undef, undef, undef, undef, undef, undef], defers := [] } ∧ RunBox W b x)
    ?ax ?assign ?body ?done ?stop
  case ax =>
    rintro x a' s W W' row ⟨b, h1, h2⟩ hg hr
    exact ⟨b, h1, runBox_own (β := Unit) b x () W W' row h2 hg hr⟩
  case assign =>
    intro l pre x W K hI hK
    obtain ⟨⟨xv, xn⟩, hx⟩ := x
    simp only [runV, List.zip_toArray, List.zip_cons_cons, List.zip_nil_right, List.foldl_toArray, List.foldl_cons, List.foldl_nil, List.setIfInBounds_toArray, List.set_cons_zero, List.set_cons_succ]
    gi_wp2
    obtain ⟨v', hW', hU'⟩ := hI
    have hB : Below W.heap.size W (W.alloc (.cells #[.int .u64 (xv : Int), .int .i64 (xn : Int)] 149)) := (Below.refl _ W).alloc (Nat.le_refl _) _
    refine hK _ _ ((KeepsOthers.alloc W _).from _) (keepRun_mods (Mods.alloc (fun _ => False) W _) hU'.mods.size (fun k hk => (HKW2.out k hk).2.2) (fun _ _ e => e) (fun _ e => e.elim)) ⟨v', hW'.below hB, hU'.trans ⟨Mods.of_below hB _, Fresh.refl _ _⟩⟩ ⟨W.heap.size, rfl, World.alloc_heap_new W _⟩
  case body =>
    rintro l pre x a' W hlw hrec ⟨v', hW', hU'⟩ ⟨b, rfl, hRB⟩ hlen
    obtain ⟨⟨xv, xn⟩, hx⟩ := x
    obtain ⟨m, rfl⟩ : ∃ m, xn = m + 1 := ⟨xn - 1, by have := hx.1; simp at this; omega⟩
    have hm : m ≤ 127 := by have := hx.2.1; simp at this; omega
    have hxv : xv < 18446744073709551616 := hx.2.2
    have hm' : (m : Int) ≤ 127 := by omega
    have hm0 : (0 : Int) ≤ (m : Int) := by omega
    have HPre : Hid (bits ++ (rnsOf (pre ++ [⟨(xv, m + 1), hx⟩])).flatMap encRun = (bits ++ (rnsOf pre).flatMap encRun) ++ fieldBits xv 64 ++ fieldBits m 7) := by
      show _ = _
      rw [rnsOf_push, List.flatMap_append, List.flatMap_cons, List.flatMap_nil, List.append_nil, encRun]; simp
    have hol : (bits ++ (rnsOf pre).flatMap encRun).length + 200 ≤ 1125899906842624 := by
      rw [List.length_append, encRuns_len]
      have : (rnsOf pre).length = pre.length := by simp [rnsOf]
      have := HZ.out
      omega
    generalize bits ++ (rnsOf pre).flatMap encRun = out0 at *
    have HW' := Lib.hid hW'; have HU' := Lib.hid hU'; have HRB := Lib.hid hRB
    have hXW := hU'.mods.blk HX0.out HXn.out
    have HXW := Lib.hid hXW
    have c0 : W.cell? ⟨w.heap.size, 0, none⟩ = some (.pointer (some ⟨p, 0, none⟩)) := by rw [hXW.cell]; rfl
    have d0 : W.cell? ⟨b, 0, none⟩ = some (.int .u64 (xv : Int)) := by rw [hRB.blk.cell]; rfl
    have HWB := Lib.hid (wbits p v' _ xv 64 W hW' (by omega) (by omega))
    have HNr := Lib.hid (writer_not_run hW')
    have HXv : Hid (¬ (w.heap.size = p ∨ v'.ownBlock = some w.heap.size)) := fun e => by
      rcases e with e | e
      · exact HXn.out (Or.inl e)
      · rcases hU'.fresh _ e with e2 | e2
        · exact HXn.out (Or.inr e2)
        · have := HX0.out.lt; omega
    clear hW' hU' hRB hXW
    gi_wp2_with fail
    refine ⟨trivial, (CallsIn.inRound l (callsIn_wide.2 HWB.out)).mono ?_⟩
    rintro e w5 ⟨rfl, v5, hW5, hU5⟩
    have hR5 : RunBox w5 b ⟨(xv, m + 1), hx⟩ := (hU5.mods.block b (Array.getElem?_eq_some_iff.1 HRB.out).1 (fun e => HNr.out b e HRB.out.is)).trans HRB.out
    have hX5 := hU5.mods.blk HXW.out HXv.out
    have c5 : w5.cell? ⟨w.heap.size, 0, none⟩ = some (.pointer (some ⟨p, 0, none⟩)) := by rw [hX5.cell]; rfl
    have d5 : w5.cell? ⟨b, 1, none⟩ = some (.int .i64 ((m : Int) + 1)) := by rw [hR5.blk.cell]; rfl
    have HWB5 := Lib.hid (wbits p v5 _ m 7 w5 hW5 (by omega) (by rw [List.length_append, fieldBits_length]; omega))
    have HU5 := Lib.hid hU5
    clear hW5 hU5 hR5 hX5 HWB c0 d0
    gi_wp2_with fail
    refine ⟨trivial, (CallsIn.inRound l (callsIn_wide.2 HWB5.out)).mono ?_⟩
    rintro e w6 ⟨rfl, v6, hW6, hU6⟩
    have HUf : Hid (Upd W w6 p v' v6) := HU5.out.trans hU6
    have HWf := Lib.hid hW6
    clear hW6 hU6 HWB5 HU5
    gi_wp2_with fail
    refine ⟨(putIn_keeps HW'.out HUf.out.mods).from _, keepRun_mods HUf.out.mods HU'.out.mods.size (fun k hk => (HKW2.out k hk).2.2) (fun k hk e => ?_) HNr.out, v6, ?_, HU'.out.trans HUf.out⟩
    · have h1 := HKW2.out k hk
      rcases e with e | e
      · exact h1.1 e
      · rcases HU'.out.fresh k e with e2 | e2
        · exact h1.2.1 e2
        · omega
    · rw [HPre.out]
      exact HWf.out
  case done =>
    rintro D zs W hD hzs hI hK
    have HI := Lib.hid hI
    have HE2 : Hid (encR l = (rnsOf zs).flatMap encRun) := by show _ = _; rw [HE.out, hzs]
    clear hI HGV hzs
    gi_wp2
    refine ⟨by simp, .inl ⟨_, _, rfl, run_takeDeferred hK, ?_⟩⟩
    refine ⟨_, results_tmp rfl _ _ _, rfl, ?_⟩
    obtain ⟨v', hW', hU'⟩ := putIn_own (β := Unit) (Nat.le_refl W0.heap.size) p v (fun _ => bits ++ (rnsOf zs).flatMap encRun) () W (W.putObj D (.deferred none)) (some D) HI.out (grownBy_putObj' _ _ _) (fun r e => by cases e; exact ⟨hD, _, hK, rfl⟩)
    have u1 : Upd w W0 p v v := ⟨Mods.of_below HB0.out _, Fresh.refl _ _⟩
    rw [HE2.out]
    exact ⟨v', hW', u1.trans hU'⟩
  case stop =>
    rintro D c pre W _ _ h _
    exact h.elim
end Go.Proofs.YtgpmoimmpbkgfaaGreatDoor

end

section
/- Layer 7: the program's runs as cells. -/
set_option linter.unusedVariables false
namespace Go.Proofs.YtgpmoimmpbkgfaaGreatDoor
open Go Go.RowKit

theorem elemRn : Elem Tryz.prog 150 149 2 16 := Elem.mk' (z := .agg #[.int .u64 0, .int .i64 0]) Tryz.underlying150 (by kernel_rfl) rfl (by decide)
def rnCells (rs : List (Nat × Nat)) : List Value := rs.flatMap fun r => [.int .u64 (r.1 : Int), .int .i64 (r.2 : Int)]
theorem rnCells_eq (rs : List (Nat × Nat)) : rnCells rs = runCells (runsI rs) := by simp [rnCells, runCells, runsI, List.flatMap_map]
theorem rnCells_push (rs : List (Nat × Nat)) (r : Nat × Nat) : rnCells (rs ++ [r]) = rnCells rs ++ [.int .u64 (r.1 : Int), .int .i64 (r.2 : Int)] := by simp [rnCells]
end Go.Proofs.YtgpmoimmpbkgfaaGreatDoor

end

section
/- An append writes into a row only where it has room. No program in sight. -/
namespace Go.Proofs.YtgpmoimmpbkgfaaGreatDoor
open Go Go.RowKit

theorem Mods.wider {S S' : Nat → Prop} {w w' : World} (h : Mods S w w') (hS : ∀ k, S k → S' k) : Mods S' w w' := ⟨h.os, h.tape, h.output, h.size, fun k hk e => h.block k hk (fun x => e (hS k x))⟩

section
variable {P : Program} (w : World)
/-- An append to an owned row: where the result lies is known. -/
theorem run_appR (t ty e : TypeId) (i : TypeInfo) (z : Value) (size bytes : Nat) (ht : P.underlying t = some (.slice e)) (hi : P.info? e = some i) (hz : i.zero = some z)
    (hsize : i.size = size) (hby : i.bytes = bytes) (hzs : z.cells.size = size) (hsz : 0 < size)
    (v : Value) (n : Nat) (xs : List Value) (hown : w.ownsRow 0 e size v n xs)
    (a : Addr) (m c : Nat) (news : List Value) (hl : news.length = m * size) (hnews : ∀ j u, news[j]? = some u → w.cell? (a.add j) = some u) (h1 : ∀ u ∈ news, u.oneCell' = true)
    (h63 : n + m ≤ maxLen) (hbytes : (n + m) * bytes ≤ 140737488355328) :
    ∃ v' w', (Builtin.append_ #[t, t] ty #[v, .slice (some a) m c]).run P w = .ok v' w' ∧ w'.ownsRow 0 e size v' (n + m) (xs ++ news) ∧ Mods (fun k => v.ownBlock = some k ∧ ∃ p c, v = .slice p n c ∧ n + m ≤ c) w w' ∧ Fresh w.heap.size v v' := by
  have hsmall : n + m ≤ 9223372036854775807 := by simp only [maxLen] at h63; omega
  rcases owns_cases hown with ⟨rfl, rfl, rfl⟩ | ⟨g, cap, rfl, hg, hnc, hcm⟩
  · obtain ⟨v', w', hr, h2, h3, _⟩ := run_append_own (P := P) w w.heap.size t ty e i z size bytes ht hi hz hsize hby hzs hsz _ 0 [] (World.ownsRow_nil _ _ _ _) a m c news hl hnews h1 h63 hbytes (Nat.le_refl _)
    exact ⟨v', w', hr, owns_rebase h2 (fun _ _ => Nat.zero_le _), (Mods.of_grown h3).wider (fun k e => by cases e), fun k hk => Or.inr (h2.lt k hk).1⟩
  · by_cases hroom : n + m ≤ cap
    · obtain ⟨w', hr, h2, h3⟩ := run_append_fits (P := P) w 0 t ty e i size ht hi hsize g n cap xs hown a m c news hl hnews h1 hroom
      exact ⟨_, w', hr, h2, (Mods.of_grown h3).wider (fun k e => ⟨e, _, _, rfl, hroom⟩), fun k hk => Or.inl hk⟩
    · subst hsize
      subst hby
      have holds : ∀ j u, xs[j]? = some u → w.cell? ((⟨g, 0, none⟩ : Addr).add j) = some u := hown.cells (g := g) rfl
      have hr := run_append_grow (P := P) w t ty e i z ht hi hz ⟨g, 0, none⟩ n cap xs hown.1 holds a m c news hl hnews (by omega) (by omega) (growslice_fits (by omega) hbytes)
      have hge := grownCap_ge w (n + m) cap e
      have hlen : (xs ++ news).length = (n + m) * i.size := by rw [List.length_append, hown.1, hl, Nat.add_mul]
      refine ⟨_, _, hr, ⟨hlen, .inr ⟨w.heap.size, _, _, rfl, Nat.zero_le _, heap_alloc_new w.drew _, hge, grownCap_le_maxLen w (n + m) cap e h63, ?_, ?_⟩⟩, ⟨rfl, rfl, rfl, by simp, fun k hk _ => Below.heap_alloc w.drew _ k hk⟩, ?_⟩
      · simp only [Array.size_append, List.size_toArray, size_zeroCells, hzs, hown.1, hl, ← Nat.add_mul]
        congr 1
        omega
      · simp only [Array.toList_append, List.append_assoc]
        rw [← List.append_assoc, ← hlen]
        exact List.take_left
      · intro k hk
        simp only [Value.ownBlock, Option.some.injEq] at hk
        exact Or.inr (by omega)

end

section
variable {P : Program}
/-- 'append(s, x)' of one element: x lies in a new block of its own. -/
theorem wpList_pushR {t e : TypeId} {sz bytes : Nat} (hE : Elem P t e sz bytes) (w : World) (us : Array Value) (v : Value) (n : Nat) (xs : List Value) (hown : w.ownsRow 0 e sz v n xs) (hus : us.size = sz) (h1 : ∀ u ∈ us.toList, u.oneCell' = true) (hb : (n + 1) * bytes ≤ 140737488355328 ∧ n + 1 ≤ maxLen)
    {ops : Array Oper} {rest : List Oper} {o : Oper} {a : Act} {Q : Exit → Act → World → Prop} (hgd : Region.wanted o (yielded ops a.tmps) = true) (s x : Operand) (ho : o.op = .call { callee := .builtin .append, args := #[s, x], argTypes := #[t, t] })
    (hs : a.eval s = v) (hx : a.eval x = .slice (some ⟨w.heap.size, 0, none⟩) 1 1)
    (h : ∀ v' w', w'.ownsRow 0 e sz v' (n + 1) (xs ++ us.toList) → Mods (fun k => v.ownBlock = some k ∧ ∃ p c, v = .slice p n c ∧ n + 1 ≤ c) w w' → Fresh w.heap.size v v' → wpList P ops Q rest (a.put o.dst v') w') : wpList P ops Q (o :: rest) a (w.alloc (.cells us e)) := by
  obtain ⟨i, z, hi, hz, hsize, hby, hzs⟩ := hE.hi
  refine BigFrame.wpList_want hgd fun K hK => ?_
  have hnews : ∀ (j : Nat) (u : Value), us.toList[j]? = some u → (w.alloc (.cells us e)).cell? ((⟨w.heap.size, 0, none⟩ : Addr).add j) = some u := by
    intro j u hj
    have e1 : (⟨w.heap.size, 0, none⟩ : Addr).add j = ⟨w.heap.size, j, none⟩ := by unfold Addr.add; split <;> simp_all
    rw [e1, (Blk.new w us e).cell]
    exact hj
  obtain ⟨v', w', hr, a1, a2, a3⟩ := run_appR (P := P) (w.alloc (.cells us e)) t o.type e i z sz bytes hE.ht hi hz hsize hby hzs hE.pos v n xs (hown.alloc _) ⟨w.heap.size, 0, none⟩ 1 1 us.toList (by simp [hus]) hnews h1 hb.2 hb.1
  unfold Oper.wp execOp
  simp only [ho, resolve, invoke, builtin, Sem.run_bind, Sem.run_pure, Result.andThen_ok, List.map_toArray, List.map_cons, List.map_nil, hs, hx, hr]
  refine hK _ _ (h v' w' a1 ((Mods.alloc _ _ _).trans a2 (fun _ _ e => e)) (fun k hk => ?_))
  rcases a3 k hk with e | e
  · exact Or.inl e
  · exact Or.inr (by simp at e; omega)
end
end Go.Proofs.YtgpmoimmpbkgfaaGreatDoor

end

section
/- Layer 7: the program's Join. -/
set_option linter.unusedVariables false
namespace Go.Proofs.YtgpmoimmpbkgfaaGreatDoor
open Go Go.RowKit

/-- For how many values a run stands. -/
def lenR (c : Int) : Nat := if 1 ≤ c ∧ c ≤ 128 then c.toNat else 0
theorem lenR_le (c : Int) : lenR c ≤ 128 := by unfold lenR; split <;> omega
theorem joinI_len (rs : List (Nat × Int)) : joinI rs = rs.flatMap fun r => List.replicate (lenR r.2) r.1 := by
  unfold joinI lenR
  congr 1
  funext r
  split <;> simp

theorem length_any (x c : Int) (hc : -9223372036854775808 ≤ c ∧ c < 9223372036854775808) (w : World) :
    Calls Tryz.prog 109 #[.agg #[.int .u64 x, .int .i64 c]] w fun e w' => e = .returned (.int .i64 (lenR c : Int)) ∧ Below w.heap.size w w' := by
  have hB : Below w.heap.size w (w.alloc (.cells #[.int .u64 x, .int .i64 c] 149)) := (Below.refl _ w).alloc (Nat.le_refl _) _
  by_cases h1 : c < 1
  · have HR : Hid ((lenR c : Int) = 0) := by show _ = _; rw [lenR, if_neg (by omega)]; rfl
    rw [HR.out]
    go_enter Tryz.func109, Tryz.ntmps109
    go_wp2_with fail
    go_ret
    exact ⟨rfl, hB⟩
  · by_cases h2 : 128 < c
    · have HR : Hid ((lenR c : Int) = 0) := by show _ = _; rw [lenR, if_neg (by omega)]; rfl
      rw [HR.out]
      go_enter Tryz.func109, Tryz.ntmps109
      go_wp2_with fail
      go_ret
      exact ⟨rfl, hB⟩
    · have HR : Hid ((lenR c : Int) = c) := by show _ = _; rw [lenR, if_pos (by omega)]; omega
      rw [HR.out]
      go_enter Tryz.func109, Tryz.ntmps109
      go_wp2_with fail
      go_ret
      exact ⟨rfl, hB⟩

/-- The values that have been appended. -/
structure JoinIn (w wr : World) (acc : List Nat) (v : Value) : Prop where
  own : wr.ownsRow w.heap.size 31 1 v acc.length (u64s acc)
  bel : Below w.heap.size w wr
theorem runCells_at (rs : List (Nat × Int)) (i : Nat) (x : Nat) (c : Int) (h : rs[i]? = some (x, c)) : (runCells rs)[i * 2]? = some (.int .u64 (x : Int)) ∧ (runCells rs)[i * 2 + 1]? = some (.int .i64 c) := by
  induction rs generalizing i with
  | nil => cases h
  | cons r rs ih =>
    cases i with
    | zero => cases h; exact ⟨rfl, rfl⟩
    | succ i =>
      have h' : rs[i]? = some (x, c) := h
      obtain ⟨a, b⟩ := ih i h'
      have e : runCells (r :: rs) = .int .u64 (r.1 : Int) :: .int .i64 r.2 :: runCells rs := rfl
      rw [e, show (i + 1) * 2 = i * 2 + 2 from by omega]
      exact ⟨a, b⟩
theorem joinI_take_len (rs : List (Nat × Int)) (i : Nat) : (joinI (rs.take i)).length ≤ 128 * i := by
  rw [joinI_len]
  induction rs generalizing i with
  | nil => simp
  | cons r rs ih =>
    cases i with
    | zero => simp
    | succ i =>
      rw [List.take_succ_cons, List.flatMap_cons, List.length_append, List.length_replicate]
      have := ih i
      have := lenR_le r.2
      omega

set_option maxRecDepth 20000 in
set_option maxHeartbeats 4000000 in
theorem runval_join (rv : Value) (rs : List (Nat × Int)) (w : World) (hl : Rd w 2 rv rs.length (runCells rs)) (hok : ∀ r ∈ rs, in64u r.1 ∧ -9223372036854775808 ≤ r.2 ∧ r.2 < 9223372036854775808) (hn : rs.length ≤ 1000000) :
    Calls Tryz.prog 87 #[rv] w fun e w' => ∃ r, e = .returned r ∧ Rd w' 1 r (joinI rs).length (u64s (joinI rs)) ∧ (∀ k, r.ownBlock = some k → w.heap.size ≤ k) ∧ Below w.heap.size w w' := by
  have HL := Lib.hid hl; have HOk := Lib.hid hok; have HN := Lib.hid hn
  obtain ⟨pl, cl, hv⟩ := hl.shape
  subst hv
  clear hl hok hn
  go_enter Tryz.func87, Tryz.ntmps87
  go_wp2_with fail
  go_loopw [3, 7] (fun vv kv wr => ∃ (i : Nat), i ≤ rs.length ∧ kv = .int .i64 (i : Int) ∧ Hid (JoinIn w wr (joinI (rs.take i)) vv)) (fun _ kv _ => rs.length - (intOf kv).toNat)
  case atStart => exact ⟨0, Nat.zero_le _, rfl, World.ownsRow_nil _ _ _ _, Below.refl _ _⟩
  case round =>
    obtain ⟨i, hi, rfl, HJ⟩ := hrel
    by_cases hlt : i < rs.length
    · have hlt' : (i : Int) < (rs.length : Int) := by omega
      have him : (i : Int) ≤ 1000000 := by have := HN.out; omega
      obtain ⟨⟨x, c⟩, hr⟩ : ∃ r, rs[i]? = some r := ⟨_, List.getElem?_eq_getElem hlt⟩
      obtain ⟨e1, e2⟩ := runCells_at rs i x c hr
      obtain ⟨b, off, c', e, _, _, hcl⟩ := HL.out.at (fun e => by rw [e] at e1; cases e1)
      simp only [Value.slice.injEq] at e
      obtain ⟨rfl, _, rfl⟩ := e
      have HC0 : Hid (w.cell? ⟨b, off + i * 2, none⟩ = some (.int .u64 (x : Int))) := hcl _ _ e1
      have HC1 : Hid (w.cell? ⟨b, off + i * 2 + 1, none⟩ = some (.int .i64 c)) := hcl _ _ e2
      have hci : -9223372036854775808 ≤ c ∧ c < 9223372036854775808 := (HOk.out _ (List.mem_of_getElem? hr)).2
      have HSt : Hid (joinI (rs.take (i + 1)) = joinI (rs.take i) ++ List.replicate (lenR c) x) := by
        show _ = _
        rw [List.take_add_one, hr, joinI_len, joinI_len, List.flatMap_append]
        simp
      have HLe := Lib.hid (joinI_take_len rs i)
      have HLr := Lib.hid (lenR_le c)
      have hc0 : wr.cell? ⟨b, off + i * 2, none⟩ = some (.int .u64 (x : Int)) := (HJ.out.bel.cell (World.block_lt_of_cell? w _ HC0.out)).trans HC0.out
      have hc1 : wr.cell? ⟨b, off + i * 2 + 1, none⟩ = some (.int .i64 c) := (HJ.out.bel.cell (World.block_lt_of_cell? w _ HC1.out)).trans HC1.out
      have HLn := Lib.hid (length_any (x : Int) c hci wr)
      clear e1 e2 hcl hr hci
      generalize joinI (rs.take i) = acc at *
      generalize lenR c = N at *
      obtain ⟨pv, cv, hvv⟩ := (Rd.of_owns HJ.out.own).shape
      subst hvv
      go_wp2_with fail
      refine HLn.out.mono ?_
      rintro e w2 ⟨rfl, hB⟩
      have HJ2 : Hid (JoinIn w w2 acc (.slice pv acc.length cv)) := ⟨(Mods.of_below hB (fun _ => False)).owns HJ.out.own (fun _ _ e => e), HJ.out.bel.trans (hB.mono HJ.out.bel.size)⟩
      clear hB HLn HJ hc0 hc1
      go_wp2_with fail
      obtain ⟨A, hA⟩ : ∃ A, acc.length = A := ⟨_, rfl⟩
      have HA := Lib.hid hA
      rw [hA]
      have HJ3 : Hid (JoinIn w w2 (acc ++ List.replicate 0 x) (.slice pv (A + 0) cv)) := by
        show JoinIn _ _ _ _
        rw [← hA, List.replicate_zero, List.append_nil]
        exact HJ2.out
      clear hA HJ2
      go_loopw [3, 15] (fun vv kv wr => ∃ (j : Nat), j ≤ N ∧ kv = .int .i64 (j : Int) ∧ Hid (JoinIn w wr (acc ++ List.replicate j x) vv)) (fun _ kv _ => N - (intOf kv).toNat)
      case atStart => exact ⟨0, Nat.zero_le _, rfl, HJ3.out⟩
      case round =>
        obtain ⟨j, hj, rfl, HI⟩ := hrel
        by_cases hjn : j < N
        · have hjn' : (j : Int) < (N : Int) := by omega
          have hjm : (j : Int) ≤ 128 := by have := HLr.out; omega
          obtain ⟨L, hL⟩ : ∃ L, (acc ++ List.replicate j x).length = L := ⟨_, rfl⟩
          have hL2 : L ≤ 200000000 := by
            rw [← hL, List.length_append, List.length_replicate]
            have h1 := HLe.out; have h2 := HLr.out; have h3 := HN.out
            omega
          have HB : Hid ((L + 1) * 8 ≤ 140737488355328 ∧ L + 1 ≤ maxLen) := by show _ ∧ _; unfold maxLen; omega
          have HO : Hid (wr.ownsRow 0 31 1 u3 L (u64s (acc ++ List.replicate j x))) := by
            have := owns_rebase HI.out.own (base' := 0) (fun _ _ => Nat.zero_le _)
            rw [hL] at this
            exact this
          have HNx : Hid (acc ++ List.replicate (j + 1) x = (acc ++ List.replicate j x) ++ [x] ∧ (acc ++ List.replicate (j + 1) x).length = L + 1) := by
            have e : acc ++ List.replicate (j + 1) x = (acc ++ List.replicate j x) ++ [x] := by rw [List.replicate_succ', List.append_assoc]
            refine ⟨e, ?_⟩
            rw [e, List.length_append, hL]; rfl
          obtain ⟨p1, c1, hv1⟩ := (Rd.of_owns HO.out).shape
          subst hv1
          have hc0 : wr.cell? ⟨b, off + i * 2, none⟩ = some (.int .u64 (x : Int)) := (HI.out.bel.cell (World.block_lt_of_cell? w _ HC0.out)).trans HC0.out
          have HSz := Lib.hid HI.out.bel.size
          clear hL hL2
          go_wp2_with (at_builtin; refine wpList_push Tryz.elemU64 wr #[.int .u64 (x : Int)] _ _ _ HO.out rfl (one_cell _ rfl) HB.out rfl _ _ rfl rfl rfl ?_)
          intro v2 w3 k1 k2 k3
          have HI2 : Hid (JoinIn w w3 (acc ++ List.replicate (j + 1) x) v2) := by
            refine ⟨?_, HI.out.bel.trans (k2.below HSz.out (fun k hk e => by have := (HI.out.own.lt k e).1; omega))⟩
            rw [HNx.out.2, HNx.out.1, u64s_append]
            refine owns_rebase k1 (fun k hk => ?_)
            rcases k3 k hk with e | e
            · exact (HI.out.own.lt k e).1
            · have := HSz.out; omega
          clear k1 k2 k3 hc0 HI HO
          go_wp2_with fail
          go_round
          case rel => exact ⟨j + 1, by omega, by go_num, HI2.out⟩
          case measure => simp [intOf]; omega
        · have hjn' : ¬ (j : Int) < (N : Int) := by omega
          obtain rfl : j = N := by omega
          have HI2 : Hid (JoinIn w wr (joinI (rs.take (i + 1))) u3) := by show JoinIn _ _ _ _; rw [HSt.out]; exact HI.out
          clear HI
          go_wp2_with fail
          go_round
          case rel => exact ⟨i + 1, by omega, by go_num, HI2.out⟩
          case measure => simp [intOf]; omega
    · have hlt' : ¬ (i : Int) < (rs.length : Int) := by omega
      have HD : Hid (joinI (rs.take i) = joinI rs) := by show _ = _; rw [List.take_of_length_le (by omega)]
      rw [HD.out] at HJ
      obtain ⟨pv, cv, hvv⟩ := (Rd.of_owns HJ.out.own).shape
      subst hvv
      go_wp2_with fail
      go_ret
      exact ⟨_, rfl, Rd.of_owns HJ.out.own, fun k hk => (HJ.out.own.lt k hk).1, HJ.out.bel⟩
end Go.Proofs.YtgpmoimmpbkgfaaGreatDoor

end

section
/- Layer 7: the program reads a run. -/
set_option linter.unusedVariables false
set_option maxRecDepth 20000
namespace Go.Proofs.YtgpmoimmpbkgfaaGreatDoor
open Go Go.RowKit

/-- A run, read. -/
def runD (bs : List Bool) : Res (Nat × Nat) :=
  if (field 64 bs).e ≠ 0 then ⟨(field 64 bs).e, (0, 0), (field 64 bs).r⟩ else
  let y := field 7 (field 64 bs).r
  if y.e ≠ 0 then ⟨y.e, (0, 0), y.r⟩ else ⟨0, ((field 64 bs).x, y.x + 1), y.r⟩

set_option maxHeartbeats 2000000 in
theorem getRun_any (p : Nat) (v : Value) (bs : List Nat) (r : List Bool) (w : World) (h : RIs p v bs r w) :
    Calls Tryz.prog 107 #[.pointer (some ⟨p, 0, none⟩)] w fun e w' => e = .returned (.tuple #[.agg #[.int .u64 ((runD r).x.1 : Int), .int .i64 ((runD r).x.2 : Int)], .int .i64 ((runD r).e : Int)]) ∧ RP p v bs (runD r).r w w' := by
  obtain ⟨w1, hw1⟩ : ∃ w1, w.alloc (.cells #[.int .u64 0, .int .i64 0] 149) = w1 := ⟨_, rfl⟩
  have HK1 : Hid (Blk w1 w.heap.size [.int .u64 0, .int .i64 0]) := by rw [← hw1]; exact Blk.new w _ _
  have HB1 : Hid (Below w.heap.size w w1) := by rw [← hw1]; exact (Below.refl _ w).alloc (Nat.le_refl _) _
  have HP1 : Hid (RP p v bs r w w1) := h.start.below HB1.out
  have HG : Hid (w.heap.size ≠ p) := by show _ ≠ _; have := h.1.blk.lt; omega
  have HF := Lib.hid (rfield p v bs r 64 w1 HP1.out.1 (by omega))
  have H := Lib.hid h
  clear h
  rcases field_two 64 r with hf | ⟨a, r1, hf, ha⟩
  · have HD : Hid (runD r = ⟨3, (0, 0), r⟩) := by show _ = _; rw [runD, hf]; rfl
    rw [hf] at HF
    clear hf
    go_enter Tryz.func107, Tryz.ntmps107
    go_wp2_with fail
    refine HF.out.mono ?_
    rintro e w2 ⟨rfl, hP2⟩
    have HP2 := Lib.hid (rp_trans HP1.out hP2)
    have HK2 := Lib.hid (hP2.2.blk HK1.out HG.out)
    obtain ⟨⟨d0, d1⟩, f0, f1⟩ := HK2.out.two
    clear hP2
    go_wp2_with fail
    rw [HD.out]
    refine bodyPost_ret (resultsS2 (p := 2) (u := 3) strRun (by kernel_rfl) _ w.heap.size rfl [.int .u64 0, .int .i64 0] (HK2.out.set2 _ _) rfl) rfl ⟨rfl, ?_⟩
    exact rp_set2 H.out HP2.out (Nat.le_refl _) _ _
  · rw [hf] at HF
    have HF1 := Lib.hid hf
    clear hf ha
    go_enter Tryz.func107, Tryz.ntmps107
    go_wp2_with fail
    refine HF.out.mono ?_
    rintro e w2 ⟨rfl, hP2⟩
    have HP2 := Lib.hid (rp_trans HP1.out hP2)
    have HK2 := Lib.hid (hP2.2.blk HK1.out HG.out)
    have HF2 := Lib.hid (rfield p v bs r1 7 w2 hP2.1 (by omega))
    clear hP2 HF
    rcases field_two 7 r1 with hf | ⟨y, r2, hf, hy⟩
    · have HD : Hid (runD r = ⟨3, (0, 0), r1⟩) := by show _ = _; rw [runD, HF1.out]; simp only [hf, ne_eq, not_true_eq_false, if_false]; rfl
      rw [hf] at HF2
      clear hf
      go_wp2_with fail
      refine HF2.out.mono ?_
      rintro e w3 ⟨rfl, hP3⟩
      have HP3 := Lib.hid (rp_trans HP2.out hP3)
      have HK3 := Lib.hid (hP3.2.blk HK2.out HG.out)
      obtain ⟨⟨d0, d1⟩, f0, f1⟩ := HK3.out.two
      clear hP3
      go_wp2_with fail
      rw [HD.out]
      refine bodyPost_ret (resultsS2 (p := 2) (u := 3) strRun (by kernel_rfl) _ w.heap.size rfl [.int .u64 0, .int .i64 0] (HK3.out.set2 _ _) rfl) rfl ⟨rfl, ?_⟩
      exact rp_set2 H.out HP3.out (Nat.le_refl _) _ _
    · rw [hf] at HF2
      have hy128 : (y : Int) < 128 := by omega
      have HD : Hid (runD r = ⟨0, (a, y + 1), r2⟩) := by show _ = _; rw [runD, HF1.out]; simp only [hf, ne_eq, not_true_eq_false, if_false]
      clear hf hy
      go_wp2_with fail
      refine HF2.out.mono ?_
      rintro e w3 ⟨rfl, hP3⟩
      have HP3 := Lib.hid (rp_trans HP2.out hP3)
      have HK3 := Lib.hid (hP3.2.blk HK2.out HG.out)
      obtain ⟨⟨d0, d1⟩, f0, f1⟩ := HK3.out.two
      clear hP3 HF2
      go_wp2_with fail
      rw [HD.out]
      refine bodyPost_ret (resultsS2 (p := 2) (u := 3) strRun (by kernel_rfl) _ w.heap.size rfl [.int .u64 (a : Int), .int .i64 ((y + 1 : Nat) : Int)] (HK3.out.set2 _ _) rfl) rfl ⟨rfl, ?_⟩
      exact rp_set2 H.out HP3.out (Nat.le_refl _) _ _
end Go.Proofs.YtgpmoimmpbkgfaaGreatDoor

end

section
/- Layer 7: the program's Get. -/
set_option linter.unusedVariables false
set_option maxRecDepth 20000
namespace Go.Proofs.YtgpmoimmpbkgfaaGreatDoor
open Go Go.RowKit

/-- Whether a run should have been part of the one before. -/
def contR (rs : List (Nat × Nat)) (x : Nat) : Bool := match rs.getLast? with
  | some (v, c) => v == x && decide (c < 128)
  | none => false

set_option maxHeartbeats 2000000 in
theorem continues_any (lv : Value) (rs : List (Nat × Nat)) (x : Nat) (c : Int) (w : World) (h : Rd w 2 lv rs.length (rnCells rs)) :
    Calls Tryz.prog 108 #[lv, .agg #[.int .u64 (x : Int), .int .i64 c]] w fun e w' => e = .returned (.bool (contR rs x)) ∧ Below w.heap.size w w' := by
  have HL := Lib.hid h
  rcases cases_last rs with rfl | ⟨ps, v, n, rfl⟩
  · obtain ⟨p, c2, hv⟩ := h.shape
    subst hv
    clear h
    simp only [List.length_nil] at *
    go_enter Tryz.func108, Tryz.ntmps108
    go_wp2_with fail
    go_ret
    exact ⟨rfl, (Below.refl _ w).alloc (Nat.le_refl _) _⟩
  · have e1 : (rnCells (ps ++ [(v, n)]))[ps.length * 2]? = some (.int .u64 (v : Int)) ∧ (rnCells (ps ++ [(v, n)]))[ps.length * 2 + 1]? = some (.int .i64 (n : Int)) := by
      have := runCells_at (runsI (ps ++ [(v, n)])) ps.length v (n : Int) (by simp [runsI])
      rw [rnCells_eq]; exact this
    obtain ⟨b, off, c', e, _, _, hcl⟩ := h.at (fun e => by rw [e] at e1; cases e1.1)
    subst e
    have HC0 := Lib.hid (hcl _ _ e1.1)
    have HC1 : Hid (w.cell? ⟨b, off + ps.length * 2 + 1, none⟩ = some (.int .i64 (n : Int))) := hcl _ _ e1.2
    have hb : b < w.heap.size := World.block_lt_of_cell? w _ (hcl _ _ e1.1)
    have HR : Hid (contR (ps ++ [(v, n)]) x = ((v == x) && decide (n < 128))) := by show _ = _; simp [contR]
    rw [HR.out]
    have hle := h.le
    have hlen : (ps ++ [(v, n)]).length = ps.length + 1 := by simp
    rw [hlen] at hle ⊢
    have hm : (ps.length : Int) ≤ 9223372036854775806 := by unfold maxLen at hle; omega
    clear h e1 hcl HL hlen hle
    generalize ps.length = m at *
    obtain ⟨w1, hw1⟩ : ∃ w1, w.alloc (.cells #[.int .u64 (x : Int), .int .i64 c] 149) = w1 := ⟨_, rfl⟩
    have hK1 : Blk w1 w.heap.size [.int .u64 (x : Int), .int .i64 c] := by rw [← hw1]; exact Blk.new w _ _
    have HB1 : Hid (Below w.heap.size w w1) := by rw [← hw1]; exact (Below.refl _ w).alloc (Nat.le_refl _) _
    have c0 : w1.cell? ⟨b, off + m * 2, none⟩ = some (.int .u64 (v : Int)) := (HB1.out.cell hb).trans HC0.out
    have c1 : w1.cell? ⟨b, off + m * 2 + 1, none⟩ = some (.int .i64 (n : Int)) := (HB1.out.cell hb).trans HC1.out
    obtain ⟨w2, hw2⟩ : ∃ w2, w1.alloc (.cells #[.int .u64 (v : Int), .int .i64 (n : Int)] 149) = w2 := ⟨_, rfl⟩
    have hK2 : Blk w2 w1.heap.size [.int .u64 (v : Int), .int .i64 (n : Int)] := by rw [← hw2]; exact Blk.new w1 _ _
    have hB2 : Below w1.heap.size w1 w2 := by rw [← hw2]; exact (Below.refl _ w1).alloc (Nat.le_refl _) _
    have HB2 : Hid (Below w.heap.size w w2) := HB1.out.trans (hB2.mono HB1.out.size)
    obtain ⟨⟨d0, d1⟩, _⟩ := (hK1.of_same (hB2.block _ hK1.lt)).two
    obtain ⟨⟨e0, e1⟩, _⟩ := hK2.two
    have HE : Hid ((v == x) = ((v : Int) == (x : Int))) := by
      show _ = _
      rcases Decidable.em (v = x) with h | h
      · subst h; simp
      · have h2 : ¬ (v : Int) = (x : Int) := by omega
        rw [beq_eq_false_iff_ne.2 h, beq_eq_false_iff_ne.2 h2]
    have HE2 : Hid (decide (n < 128) = decide ((n : Int) < 128)) := by show _ = _; rw [decide_eq_decide]; omega
    rw [HE.out, HE2.out]
    clear hK1 hK2 hb hB2
    obtain ⟨B1, hb1⟩ : ∃ B1, ((v : Int) == (x : Int)) = B1 := ⟨_, rfl⟩
    obtain ⟨B2, hb2⟩ : ∃ B2, decide ((n : Int) < 128) = B2 := ⟨_, rfl⟩
    rw [hb1, hb2]
    cases B1
    · go_enter Tryz.func108, Tryz.ntmps108
      go_wp2_with fail
      go_ret
      exact ⟨rfl, HB2.out⟩
    · cases B2
      · go_enter Tryz.func108, Tryz.ntmps108
        go_wp2_with fail
        go_ret
        exact ⟨rfl, HB2.out⟩
      · go_enter Tryz.func108, Tryz.ntmps108
        go_wp2_with fail
        go_ret
        exact ⟨rfl, HB2.out⟩
end Go.Proofs.YtgpmoimmpbkgfaaGreatDoor

end

section
/- Layer 7: the reading of runs, step by step. No program in sight. -/
namespace Go.Proofs.YtgpmoimmpbkgfaaGreatDoor

def GetAtR (n : Nat) (bs : List Bool) (acc : List Nat) (cnt : Nat) (bits : List Bool) : Prop := ∃ f, n - acc.length ≤ f ∧ decR n bs = decRF f n acc cnt bits
theorem getR_start (n : Nat) (bs : List Bool) : GetAtR n bs [] 128 bs := ⟨n, by simp, rfl⟩
theorem getR_done {n : Nat} {bs : List Bool} {acc : List Nat} {cnt : Nat} {bits : List Bool} (h : GetAtR n bs acc cnt bits) (hn : n ≤ acc.length) : decR n bs = ⟨0, acc, bits⟩ := by
  obtain ⟨f, _, h⟩ := h
  rw [h, decRF_done hn]
theorem getR_step {n : Nat} {bs : List Bool} {acc : List Nat} {cnt : Nat} {bits : List Bool} (h : GetAtR n bs acc cnt bits) (hn : acc.length < n) : ∃ f, n - acc.length ≤ f + 1 ∧ decR n bs = decRF (f + 1) n acc cnt bits := by
  obtain ⟨f, hf, h⟩ := h
  obtain ⟨g, rfl⟩ : ∃ g, f = g + 1 := ⟨f - 1, by omega⟩
  exact ⟨g, hf, h⟩
theorem getR_eof1 {n : Nat} {bs : List Bool} {acc : List Nat} {cnt : Nat} {bits : List Bool} (h : GetAtR n bs acc cnt bits) (hn : acc.length < n) (hs : bits.length < 64) : decR n bs = ⟨3, [], bits⟩ := by
  obtain ⟨f, _, h⟩ := getR_step h hn
  rw [h, decRF, if_neg (by omega)]
  simp only [field_short hs]
  rfl
theorem getR_eof2 {n : Nat} {bs : List Bool} {acc : List Nat} {cnt x : Nat} {bits b1 : List Bool} (h : GetAtR n bs acc cnt bits) (hn : acc.length < n) (h1 : field 64 bits = ⟨0, x, b1⟩) (hs : b1.length < 7) : decR n bs = ⟨3, [], b1⟩ := by
  obtain ⟨f, _, h⟩ := getR_step h hn
  rw [h, decRF, if_neg (by omega)]
  simp only [h1, field_short hs, ne_eq, not_true_eq_false, if_false]
  rfl
theorem getR_bad {n : Nat} {bs : List Bool} {acc : List Nat} {cnt x c : Nat} {bits b1 b2 : List Bool} (h : GetAtR n bs acc cnt bits) (hn : acc.length < n) (h1 : field 64 bits = ⟨0, x, b1⟩) (h2 : field 7 b1 = ⟨0, c, b2⟩) (hb : n < acc.length + c + 1 ∨ (acc.getLast? = some x ∧ cnt < 128)) : decR n bs = ⟨8, [], b2⟩ := by
  obtain ⟨f, _, h⟩ := getR_step h hn
  rw [h, decRF, if_neg (by omega)]
  simp only [h1, h2, ne_eq, not_true_eq_false, if_false]
  rw [if_pos hb]
theorem getR_next {n : Nat} {bs : List Bool} {acc : List Nat} {cnt x c : Nat} {bits b1 b2 : List Bool} (h : GetAtR n bs acc cnt bits) (hn : acc.length < n) (h1 : field 64 bits = ⟨0, x, b1⟩) (h2 : field 7 b1 = ⟨0, c, b2⟩) (hb : ¬ (n < acc.length + c + 1 ∨ (acc.getLast? = some x ∧ cnt < 128))) : GetAtR n bs (acc ++ List.replicate (c + 1) x) (c + 1) b2 := by
  obtain ⟨f, hf, h⟩ := getR_step h hn
  refine ⟨f, by rw [List.length_append, List.length_replicate]; omega, ?_⟩
  rw [h, decRF, if_neg (by omega)]
  simp only [h1, h2, ne_eq, not_true_eq_false, if_false]
  rw [if_neg hb]
end Go.Proofs.YtgpmoimmpbkgfaaGreatDoor

end

section
/- Layer 7: the program's Get: its loop. -/
set_option linter.unusedVariables false
set_option maxRecDepth 20000
namespace Go.Proofs.YtgpmoimmpbkgfaaGreatDoor
open Go Go.RowKit

theorem contR_iff {acc : List Nat} {cnt : Nat} {rs : List (Nat × Nat)} (h : LastOk acc cnt rs) (x : Nat) : contR rs x = true ↔ (acc.getLast? = some x ∧ cnt < 128) := by
  rcases cases_last rs with rfl | ⟨p, v, c, rfl⟩
  · rw [h.1]
    simp [contR, joinR]
  · obtain ⟨e1, e2⟩ := h.2.1 (v, c) (lastR_snoc _ _ _)
    simp only at e1 e2
    rw [e1, e2]
    simp [contR]

/-- Where getRuns stands between two rounds. -/
structure GRIn (w : World) (p : Nat) (v : Value) (bs : List Nat) (n : Nat) (bits : List Bool) (rs : List (Nat × Nat)) (cur : List Bool) (lv : Value) (wr : World) : Prop where
  row : wr.ownsRow w.heap.size 149 2 lv rs.length (rnCells rs)
  rp : RP p v bs cur w wr
  at_ : ∃ cnt, LastOk (joinR rs) cnt rs ∧ GetAtR n bits (joinR rs) cnt cur
  ok : ∀ r ∈ rs, runOk r
  few : rs.length ≤ (joinR rs).length

/-- What getRuns leaves. -/
structure GRPost (p : Nat) (v : Value) (bs : List Nat) (w : World) (o : Res (List Nat)) (e : Ending) (w' : World) : Prop where
  res : ∃ (r : Value) (rs : List (Nat × Nat)), e = .returned (.tuple #[r, .int .i64 (o.e : Int)]) ∧ Rd w' 2 r rs.length (rnCells rs) ∧ (o.e = 0 → joinR rs = o.x ∧ (∀ r ∈ rs, runOk r) ∧ rs.length ≤ (joinR rs).length)
  rp : RP p v bs o.r w w'

theorem GRPost.fails {p : Nat} {v : Value} {bs : List Nat} {w w' : World} {o : Res (List Nat)} {r : List Bool} {en : Nat} (h : RP p v bs r w w') (ho : o = ⟨en, [], r⟩) (hen : en ≠ 0) : GRPost p v bs w o (.returned (.tuple #[.slice none 0 0, .int .i64 (en : Int)])) w' := by
  subst ho
  exact ⟨⟨_, [], rfl, Rd.nil _ _, fun e => absurd e hen⟩, h⟩

set_option maxHeartbeats 4000000 in
theorem getRuns_any (p : Nat) (v : Value) (n : Nat) (bs : List Nat) (bits : List Bool) (w : World) (h : RIs p v bs bits w) (hn : n ≤ 1000000) :
    Calls Tryz.prog 86 #[.pointer (some ⟨p, 0, none⟩), .int .i64 (n : Int)] w (GRPost p v bs w (decR n bits)) := by
  have H := Lib.hid h; have HNn := Lib.hid hn
  have HPl : Hid (p < w.heap.size) := h.1.blk.lt
  have hnm : (n : Int) ≤ 1000000 := by omega
  clear h hn
  go_enter Tryz.func86, Tryz.ntmps86
  go_wp2_with fail
  go_loopw [6, 7] (fun lv kv wr => ∃ (rs : List (Nat × Nat)) (cur : List Bool) (left : Nat), (joinR rs).length + left = n ∧ kv = .int .i64 (left : Int) ∧ Hid (GRIn w p v bs n bits rs cur lv wr)) (fun _ kv _ => (intOf kv).toNat)
  case atStart => exact ⟨[], bits, n, by simp [joinR], rfl, World.ownsRow_nil _ _ _ _, H.out.start, ⟨128, lastOk_nil, getR_start n bits⟩, (fun _ h => by cases h), Nat.le_refl _⟩
  case round =>
    obtain ⟨rs, cur, left, hlf, rfl, HG⟩ := hrel
    obtain ⟨pv, cv, hvv⟩ := (Rd.of_owns HG.out.row).shape
    subst hvv
    obtain ⟨cnt, HLo, HAt⟩ := HG.out.at_
    have HLo := Lib.hid HLo
    have HAt := Lib.hid HAt
    have hlb : (left : Int) ≤ 1000000 := by omega
    have HLf : Hid ((joinR rs).length + left = n) := hlf
    clear hlf
    by_cases h0 : 0 < left
    · have h0' : (0 : Int) < (left : Int) := by omega
      have HLt : Hid ((joinR rs).length < n) := by show _ < _; have := HLf.out; omega
      have HC := Lib.hid (getRun_any p v bs cur wr HG.out.rp.1)
      by_cases h64 : cur.length < 64
      · have HD : Hid (runD cur = ⟨3, (0, 0), cur⟩) := by show _ = _; rw [runD, field_short h64]; rfl
        have HR : Hid (decR n bits = ⟨3, [], cur⟩) := getR_eof1 HAt.out HLt.out h64
        rw [HD.out] at HC
        clear h64
        go_wp2_with fail
        refine HC.out.mono ?_
        rintro e w2 ⟨rfl, hP⟩
        have HP := Lib.hid (rp_trans HG.out.rp hP)
        clear hP HC
        go_wp2_with fail
        go_ret2
        exact GRPost.fails (HP.out.below ((Below.refl _ w2).alloc (Nat.le_refl _) _)) HR.out (by decide)
      · have hf1 := field_full h64
        have hx64 := take_lt h64
        generalize numOf (cur.take 64) = x at *
        generalize cur.drop 64 = b1 at *
        by_cases h7 : b1.length < 7
        · have HD : Hid (runD cur = ⟨3, (0, 0), b1⟩) := by show _ = _; rw [runD, hf1]; simp only [field_short h7, ne_eq, not_true_eq_false, if_false]; rfl
          have HR : Hid (decR n bits = ⟨3, [], b1⟩) := getR_eof2 HAt.out HLt.out hf1 h7
          rw [HD.out] at HC
          clear h7 hf1 hx64 h64
          go_wp2_with fail
          refine HC.out.mono ?_
          rintro e w2 ⟨rfl, hP⟩
          have HP := Lib.hid (rp_trans HG.out.rp hP)
          clear hP HC
          go_wp2_with fail
          go_ret2
          exact GRPost.fails (HP.out.below ((Below.refl _ w2).alloc (Nat.le_refl _) _)) HR.out (by decide)
        · have hf2 := field_full h7
          have hy := take_lt h7
          generalize numOf (b1.take 7) = y at *
          generalize b1.drop 7 = b2 at *
          have hy' : (y : Int) < 128 := by omega
          have HD : Hid (runD cur = ⟨0, (x, y + 1), b2⟩) := by show _ = _; rw [runD, hf1]; simp only [hf2, ne_eq, not_true_eq_false, if_false]
          have HF1 := Lib.hid hf1; have HF2 := Lib.hid hf2; have HX := Lib.hid hx64; have HY := Lib.hid hy
          rw [HD.out] at HC
          clear h7 hf1 hf2 hx64 h64 hy HD
          go_wp2_with fail
          refine HC.out.mono ?_
          rintro e w2 ⟨rfl, hP⟩
          obtain ⟨w3, hw3⟩ : ∃ w3, w2.alloc (.cells #[.int .u64 (x : Int), .int .i64 ((y : Int) + 1)] 149) = w3 := ⟨_, rfl⟩
          have hK3 : Blk w3 w2.heap.size [.int .u64 (x : Int), .int .i64 ((y : Int) + 1)] := by rw [← hw3]; exact Blk.new w2 _ _
          have hB3 : Below w2.heap.size w2 w3 := by rw [← hw3]; exact (Below.refl _ w2).alloc (Nat.le_refl _) _
          have HP3 := Lib.hid ((rp_trans HG.out.rp hP).below hB3)
          have HRow : Hid (w3.ownsRow w.heap.size 149 2 (.slice pv rs.length cv) rs.length (rnCells rs)) :=
            (Mods.of_below hB3 (fun _ => False)).owns (hP.2.owns HG.out.row (fun k hk e => by have := (HG.out.row.lt k hk).1; have := HPl.out; omega)) (fun _ _ e => e)
          have HNe : Hid (∀ k, (Value.slice pv rs.length cv).ownBlock = some k → k ≠ w2.heap.size) := fun k hk => by have := (HG.out.row.lt k hk).2; have := hP.2.size; omega
          have HK3 := Lib.hid hK3
          obtain ⟨⟨d0, d1⟩, f0, f1⟩ := hK3.two
          clear hP HC hB3 hK3
          by_cases hgt : left < y + 1
          · have hgt' : (left : Int) < (y : Int) + 1 := by omega
            have HR : Hid (decR n bits = ⟨8, [], b2⟩) := getR_bad HAt.out HLt.out HF1.out HF2.out (Or.inl (by have := HLf.out; omega))
            clear hgt
            go_wp2_with fail
            go_ret2
            exact GRPost.fails HP3.out HR.out (by decide)
          · have hgt' : ¬ (left : Int) < (y : Int) + 1 := by omega
            have hgd : decide ((left : Int) < (y : Int) + 1) = false := by simpa using hgt'
            have HCo := Lib.hid (continues_any _ rs x ((y : Int) + 1) w3 (Rd.of_owns HRow.out))
            have HCi := Lib.hid (contR_iff HLo.out x)
            have HGt : Hid (y + 1 ≤ left) := by show _ ≤ _; omega
            clear hgt
            by_cases hco : contR rs x = true
            · have HR : Hid (decR n bits = ⟨8, [], b2⟩) := getR_bad HAt.out HLt.out HF1.out HF2.out (Or.inr (HCi.out.1 hco))
              rw [hco] at HCo
              clear hco HCi
              go_wp2_with fail
              refine HCo.out.mono ?_
              rintro e w4 ⟨rfl, hB4⟩
              have HP4 := Lib.hid (HP3.out.below hB4)
              clear hB4 HCo
              go_wp2_with fail
              go_ret2
              exact GRPost.fails HP4.out HR.out (by decide)
            · have hcf : contR rs x = false := by simpa using hco
              rw [hcf] at HCo
              have HNx : Hid (GetAtR n bits (joinR (rs ++ [(x, y + 1)])) (y + 1) b2 ∧ LastOk (joinR (rs ++ [(x, y + 1)])) (y + 1) (rs ++ [(x, y + 1)])) := by
                have h1 := getR_next HAt.out HLt.out HF1.out HF2.out (fun e => by
                  rcases e with e | e
                  · have := HLf.out; have := HGt.out; omega
                  · exact hco (HCi.out.2 e))
                have h2 := lastOk_snoc HLo.out x y
                rw [← joinR_one x (y + 1), ← joinR_append] at h1 h2
                exact ⟨h1, h2⟩
              clear hco hcf HCi
              go_wp2_with fail
              refine HCo.out.mono ?_
              rintro e w4 ⟨rfl, hB4⟩
              have HP4 := Lib.hid (HP3.out.below hB4)
              have HB4 := Lib.hid hB4
              have HRow4 : Hid (w4.ownsRow 0 149 2 (.slice pv rs.length cv) rs.length (rnCells rs)) := owns_rebase ((Mods.of_below hB4 (fun _ => False)).owns HRow.out (fun _ _ e => e)) (fun _ _ => Nat.zero_le _)
              have hK4 := HK3.out.of_same (hB4.block _ HK3.out.lt)
              have HS4 : Hid (w.heap.size ≤ w4.heap.size) := HP4.out.2.size
              clear d0 d1 f0 f1
              obtain ⟨⟨d0, d1⟩, f0, f1⟩ := hK4.two
              have HFew : Hid (rs.length ≤ 1000000) := by show _ ≤ _; have := HG.out.few; have := HLf.out; have := HNn.out; omega
              have HBd : Hid ((rs.length + 1) * 16 ≤ 140737488355328 ∧ rs.length + 1 ≤ maxLen) := by show _ ∧ _; have := HFew.out; unfold maxLen; omega
              clear hB4 HCo hK4
              go_wp2_with (at_builtin; refine wpList_push elemRn w4 #[.int .u64 (x : Int), .int .i64 ((y : Int) + 1)] _ _ _ HRow4.out rfl (by simp [Value.oneCell']) HBd.out rfl _ _ rfl rfl rfl ?_)
              intro v5 w5 k1 k2 k3
              have hK5 := k2.blk (HK3.out.of_same (HB4.out.block _ HK3.out.lt)) (fun e => HNe.out _ e rfl)
              have HG5 : Hid (GRIn w p v bs n bits (rs ++ [(x, y + 1)]) b2 v5 w5) := by
                refine ⟨?_, rp_more H.out HP4.out k2 (fun k hk => (HRow.out.lt k hk).1), ⟨y + 1, HNx.out.2, HNx.out.1⟩, ?_, ?_⟩
                · rw [rnCells_push, List.length_append]
                  refine owns_rebase k1 (fun k hk => ?_)
                  rcases k3 k hk with e | e
                  · exact (HRow.out.lt k e).1
                  · have := HS4.out; omega
                · intro r hr
                  rcases List.mem_append.1 hr with hr | hr
                  · exact HG.out.ok r hr
                  · simp only [List.mem_singleton] at hr
                    subst hr
                    exact ⟨by show 1 ≤ y + 1; omega, by show y + 1 ≤ 128; have := HY.out; omega, by show x < 18446744073709551616; have := HX.out; omega⟩
                · rw [joinR_append, joinR_one, List.length_append, List.length_append, List.length_replicate, List.length_singleton]
                  have := HG.out.few; omega
              have HL5 : Hid ((joinR (rs ++ [(x, y + 1)])).length + (left - (y + 1)) = n) := by
                show _ = _
                rw [joinR_append, joinR_one, List.length_append, List.length_replicate]
                have := HLf.out; have := HGt.out; omega
              obtain ⟨p5, c5, hv5⟩ : ∃ p c, v5 = .slice p (rs.length + 1) c := by have := (Rd.of_owns k1).shape; exact this
              subst hv5
              clear d0 d1 f0 f1 k1 k2 k3 HRow4 HP4 HNx
              obtain ⟨⟨d0, d1⟩, f0, f1⟩ := hK5.two
              have HSub : Hid ((left : Int) - ((y : Int) + 1) = ((left - (y + 1) : Nat) : Int)) := by show _ = _; have := HGt.out; omega
              clear hK5
              go_wp2_with fail
              go_round
              case rel => exact ⟨_, b2, left - (y + 1), HL5.out, by rw [← HSub.out], HG5.out⟩
              case measure => have := HGt.out; simp [intOf]; omega
    · have h0' : ¬ (0 : Int) < (left : Int) := by omega
      have HR : Hid (decR n bits = ⟨0, joinR rs, cur⟩) := getR_done HAt.out (by have := HLf.out; omega)
      go_wp2_with fail
      go_ret2
      rw [HR.out]
      exact ⟨⟨_, rs, rfl, Rd.of_owns HG.out.row, fun _ => ⟨rfl, HG.out.ok, HG.out.few⟩⟩, HG.out.rp⟩
end Go.Proofs.YtgpmoimmpbkgfaaGreatDoor

end

section
/- Layer 7: the program's Get. -/
set_option linter.unusedVariables false
set_option maxRecDepth 20000
namespace Go.Proofs.YtgpmoimmpbkgfaaGreatDoor
open Go Go.RowKit

theorem runval_get_nil (n : Int) (w : World) : Calls Tryz.prog 53 #[.pointer none, .int .i64 n] w fun e w' => (∃ r, e = .returned (.tuple #[r, .int .i64 1])) ∧ Below w.heap.size w w' := by
  go_enter Tryz.func53, Tryz.ntmps53
  go_wp2_with fail
  go_ret2
  exact ⟨⟨_, rfl⟩, Below.refl _ _⟩
theorem runval_get_neg (p : Nat) (v : Value) (i : Nat) (n : Int) (bs : List Nat) (w : World) (h : ReaderIn w p v i bs) (hn : n < 0) (hm : -9223372036854775808 ≤ n) :
    Calls Tryz.prog 53 #[.pointer (some ⟨p, 0, none⟩), .int .i64 n] w fun e w' => (∃ r, e = .returned (.tuple #[r, .int .i64 2]) ∧ Rd w' 1 r 0 []) ∧ RBitsPost p v i bs w w' := by
  have H := Lib.hid h
  clear h
  go_enter Tryz.func53, Tryz.ntmps53
  go_wp2_with fail
  go_ret2
  exact ⟨⟨_, rfl, Rd.nil _ _⟩, H.out, Mods.refl _ _⟩

theorem RP.qr {p : Nat} {v : Value} {bs : List Nat} {o : Res (List Nat)} {w w' : World} {e : Ending} (h : RP p v bs o.r w w') (hr : ∃ r, e = .returned (.tuple #[r, .int .i64 (o.e : Int)]) ∧ Rd w' 1 r o.x.length (u64s o.x) ∧ (∀ k, r.ownBlock = some k → w.heap.size ≤ k)) : GetQR p v bs w o e w' :=
  ⟨hr, h.1.1, h.2⟩

set_option maxHeartbeats 2000000 in
theorem runval_get (p : Nat) (v : Value) (n : Nat) (bs : List Nat) (bits : List Bool) (w : World) (h : RIs p v bs bits w) (hn : n ≤ 1000000) :
    Calls Tryz.prog 53 #[.pointer (some ⟨p, 0, none⟩), .int .i64 (n : Int)] w (GetQR p v bs w (decR n bits)) := by
  have HG := Lib.hid (getRuns_any p v n bs bits w h hn)
  have HN := Lib.hid (decR_nil n bits)
  have HX : Hid ((decR n bits).e = 0 → (decR n bits).x.length = n) := fun h => (decR_inv n bits h).2.1
  have hnn : ¬ (n : Int) < 0 := by omega
  have HNn := Lib.hid hn
  clear h hn
  obtain ⟨o, ho⟩ : ∃ o, decR n bits = o := ⟨_, rfl⟩
  rw [ho] at HG HN HX ⊢
  clear ho
  by_cases he : o.e = 0
  · go_enter Tryz.func53, Tryz.ntmps53
    go_wp2_with fail
    refine HG.out.mono ?_
    rintro e w2 ⟨⟨r, rs, rfl, hR, hO⟩, hP⟩
    rw [he]
    obtain ⟨h1, h2, h3⟩ := hO he
    obtain ⟨pr, cr, hv⟩ := hR.shape
    subst hv
    have hlen : rs.length ≤ 1000000 := by rw [h1, HX.out he] at h3; have := HNn.out; omega
    rw [rnCells_eq] at hR
    have HJ := Lib.hid (runval_join (.slice pr rs.length cr) (runsI rs) w2 (by rw [runsI_length]; exact hR) (fun r hr => by
      obtain ⟨s, hs, rfl⟩ := List.mem_map.1 hr
      have := h2 s hs
      unfold runOk at this
      refine ⟨this.2.2, ?_, ?_⟩
      · show _ ≤ ((s.2 : Nat) : Int); omega
      · show ((s.2 : Nat) : Int) < _; omega) (by rw [runsI_length]; exact hlen))
    have HE : Hid (joinI (runsI rs) = o.x) := by show _ = _; rw [joinI_runs h2, h1]
    have HP := Lib.hid hP
    have HE0 : Hid (o.e = 0) := he
    clear hR hO hP h1 h2 h3 hlen he HG
    go_wp2_with fail
    refine HJ.out.mono ?_
    rintro e w3 ⟨r3, rfl, hR3, hF3, hB3⟩
    obtain ⟨p3, c3, hv⟩ := hR3.shape
    subst hv
    rw [HE.out] at hR3
    have HR3 : Hid (Rd w3 1 (.slice p3 (joinI (runsI rs)).length c3) o.x.length (u64s o.x) ∧ (∀ k, (Value.slice p3 (joinI (runsI rs)).length c3).ownBlock = some k → w.heap.size ≤ k)) := ⟨by rw [HE.out]; exact hR3, fun k hk => by have := hF3 k hk; have := HP.out.2.size; omega⟩
    have HP3 := Lib.hid (HP.out.below hB3)
    clear hR3 hF3 hB3 HJ
    generalize (joinI (runsI rs)).length = J at *
    go_wp2_with fail
    go_ret2
    exact HP3.out.qr ⟨_, by rw [HE0.out]; rfl, HR3.out⟩
  · have he' : ¬ (o.e : Int) = 0 := by omega
    have hneb : ((o.e : Int) == 0) = false := by rw [beq_eq_false_iff_ne]; exact he'
    have HXn : Hid (o.x = []) := HN.out he
    have HE0 := Lib.hid he
    clear he
    go_enter Tryz.func53, Tryz.ntmps53
    go_wp2_with fail
    refine HG.out.mono ?_
    rintro e w2 ⟨⟨r, rs, rfl, hR, hO⟩, hP⟩
    obtain ⟨pr, cr, hv⟩ := hR.shape
    subst hv
    have HP := Lib.hid hP
    clear hR hO hP HG
    go_wp2_with fail
    go_ret2
    exact HP.out.qr ⟨_, rfl, by rw [HXn.out]; exact Rd.nil _ _, fun k e => by cases e⟩
end Go.Proofs.YtgpmoimmpbkgfaaGreatDoor

end

section
/- Layer 8: what Get leaves, what Size says, the length of an encoding. -/
set_option linter.unusedVariables false
namespace Go.Proofs.YtgpmoimmpbkgfaaGreatDoor
open Go Go.RowKit

theorem below_drewD (w : World) : Below w.heap.size w w.drew := ⟨rfl, rfl, rfl, Nat.le_refl _, fun _ _ => rfl⟩
/-- What Get leaves. -/
structure GetQD (p : Nat) (v : Value) (bs : List Nat) (w : World) (o : Res (List Nat)) (e : Ending) (w' : World) : Prop where
  res : ∃ r, e = .returned (.tuple #[r, .int .i64 (o.e : Int)]) ∧ Rd w' 1 r o.x.length (u64s o.x) ∧ (∀ k, r.ownBlock = some k → w.heap.size ≤ k)
  rd : RBitsPost p v (8 * bs.length - o.r.length) bs w w'

theorem encD_len (l : List Nat) (h : okD l = true) : (encD l).length ≤ 8199 + 7 * l.length := by
  have hk : (dictD l).length ≤ 128 := of_decide_eq_true h
  rw [encD]
  split
  · simp
  · rw [List.length_append, List.length_append, fieldBits_length, wordsBits_len, indsBits_len, List.length_map]
    have := Nat.mul_le_mul_right l.length (width_le hk)
    omega
theorem putD_ok {l : List Nat} (h : okD l = true) : putD l = encD l := if_pos h
theorem putD_no {l : List Nat} (h : okD l = false) : putD l = [] := by rw [putD, h]; rfl
theorem putD_len (l : List Nat) : (putD l).length ≤ 8199 + 7 * l.length := by
  cases h : okD l with
  | true => rw [putD_ok h]; exact encD_len l h
  | false => rw [putD_no h]; simp
/-- What Size says. -/
def sizeD (l : List Nat) : Int := if okD l then ((encD l).length : Int) else -1
theorem u64s_ltD {w : World} {lv : Value} {l : List Nat} (hl : Rd w 1 lv l.length (u64s l)) : l ≠ [] → ∀ k, lv.ownBlock = some k → k < w.heap.size := fun hne => hl.lt (fun e => hne (by simpa [u64s] using e))
end Go.Proofs.YtgpmoimmpbkgfaaGreatDoor

end

section
/- slices.Sort of words: the row that it turns. The pure side is the library's (Derived.Sort). -/
set_option linter.unusedVariables false
namespace Go.Proofs.YtgpmoimmpbkgfaaGreatDoor
open Go Go.RowKit

def ltU (x y : Nat) : Bool := decide (x < y)
theorem ltU_int (x y : Nat) : decide ((x : Int) < (y : Int)) = ltU x y := by simp [ltU]

/-- The row of n words, being turned: what it was at w, and what it is at wr. -/
structure SU (w wr : World) (g n c : Nat) (d : Array Nat) : Prop where
  sz : d.size = n
  row : wr.ownsRow 0 31 1 (.slice (some ⟨g, 0, none⟩) n c) n (u64s d.toList)
  mods : Mods (fun k => k = g) w wr
theorem u64s_at {d : Array Nat} {i : Nat} (h : i < d.size) : (u64s d.toList)[i]? = some (.int .u64 (d[i]! : Int)) := by
  rw [u64s, List.getElem?_map, Array.getElem?_toList, Array.getElem?_eq_getElem h, getElem!_pos d i h]; rfl
theorem SU.cell {w wr : World} {g n c : Nat} {d : Array Nat} (h : SU w wr g n c d) {i : Nat} (hi : i < n) : wr.cell? ⟨g, i, none⟩ = some (.int .u64 (d[i]! : Int)) := by
  rw [h.row.cellAt i (by omega), u64s_at (by rw [h.sz]; exact hi)]
theorem SU.free {w wr : World} {g n c : Nat} {d : Array Nat} (h : SU w wr g n c d) (i : Nat) : wr.frozen? ⟨g, i, none⟩ = false := h.row.frozenAt i
theorem SU.drewN {w wr : World} {g n c : Nat} {d : Array Nat} (h : SU w wr g n c d) (m : Nat) : SU w (wr.drewN m) g n c d :=
  ⟨h.sz, (Mods.drewN (fun _ => False) wr m).owns h.row (fun _ _ e => e), h.mods.trans (Mods.drewN _ wr m) (fun _ _ e => e)⟩
theorem SU.drew {w wr : World} {g n c : Nat} {d : Array Nat} (h : SU w wr g n c d) : SU w wr.drew g n c d :=
  ⟨h.sz, (Mods.drew (fun _ => False) wr).owns h.row (fun _ _ e => e), h.mods.trans (Mods.drew _ wr) (fun _ _ e => e)⟩
theorem SU.swp {w wr : World} {g n c : Nat} {d : Array Nat} (h : SU w wr g n c d) {i j : Nat} (hi : i < n) (hj : j < n) :
    SU w ((wr.setCell ⟨g, i, none⟩ (.int .u64 (d[j]! : Int))).setCell ⟨g, j, none⟩ (.int .u64 (d[i]! : Int))).drew g n c (Sort.swp d i j) := by
  have h2 := ((h.row.stored i (.int .u64 (d[j]! : Int))).1.stored j (.int .u64 (d[i]! : Int))).1
  have e : ((u64s d.toList).set i (.int .u64 (d[j]! : Int))).set j (.int .u64 (d[i]! : Int)) = u64s (Sort.swp d i j).toList := by
    simp [u64s, Sort.swp, List.map_set]
  rw [e] at h2
  have hS : ∀ (wy : World) (o : Nat) (v : Value), Mods (fun k => k = g) wy (wy.setCell ⟨g, o, none⟩ v) := fun wy o v => Mods.set _ _ _ _ (fun _ => rfl)
  exact ⟨by rw [Sort.size_swp]; exact h.sz, (Mods.drew (fun _ => False) _).owns h2 (fun _ _ e => e),
    ((h.mods.trans (hS _ _ _) (fun _ _ e => e)).trans (hS _ _ _) (fun _ _ e => e)).trans (Mods.drew _ _) (fun _ _ e => e)⟩
/-- Between the two stores of an exchange. -/
theorem SU.mid {w wr : World} {g n c : Nat} {d : Array Nat} (h : SU w wr g n c d) {i j : Nat} (hi : i < n) (hj : j < n) :
    (wr.setCell ⟨g, i, none⟩ (.int .u64 (d[j]! : Int))).drew.cell? ⟨g, j, none⟩ = some (.int .u64 (d[j]! : Int)) ∧ (wr.setCell ⟨g, i, none⟩ (.int .u64 (d[j]! : Int))).drew.frozen? ⟨g, j, none⟩ = false := by
  have h2 := (h.row.stored i (.int .u64 (d[j]! : Int))).1
  refine ⟨?_, h2.frozenAt j⟩
  have h3 := h2.cellAt j (by omega)
  refine h3.trans ?_
  by_cases e : i = j
  · subst e
    rw [List.getElem?_set_self (by rw [u64s_length, Array.length_toList, h.sz]; exact hi)]
  · rw [List.getElem?_set_ne e, u64s_at (by rw [h.sz]; exact hj)]
theorem SU.trans {w wr wz : World} {g n c : Nat} {d e : Array Nat} (h : SU w wr g n c d) (k : SU wr wz g n c e) : SU w wz g n c e := ⟨k.sz, k.row, h.mods.trans k.mods (fun _ _ e => e)⟩
theorem SU.here {w wr : World} {g n c : Nat} {d : Array Nat} (h : SU w wr g n c d) : SU wr wr g n c d := ⟨h.sz, h.row, Mods.refl _ _⟩

theorem isnan_u64' (x : Nat) (w : World) : Calls Tryz.prog 131 #[.int .u64 (x : Int)] w fun e w' => e = .returned (.bool false) ∧ w' = w := by
  go_enter Tryz.func131, Tryz.ntmps131
  go_wp2_with fail
  go_ret
  exact ⟨by simp, rfl⟩
theorem less_u64' (x y : Nat) (w : World) : Calls Tryz.prog 120 #[.int .u64 (x : Int), .int .u64 (y : Int)] w fun e w' => e = .returned (.bool (ltU x y)) ∧ w' = w := by
  go_enter Tryz.func120, Tryz.ntmps120
  go_wp2_with fail
  refine (isnan_u64' x w).mono ?_
  rintro e w1 ⟨rfl, rfl⟩
  go_wp2_with fail
  go_ret
  exact ⟨by simp [ltU], rfl⟩
end Go.Proofs.YtgpmoimmpbkgfaaGreatDoor

end
