/- Layer 7: the reference's Split. -/
import Derived.Test.YtnjdjmfjkjpelaaRun
import Derived.Test.YtnjdjmfjkjpelaaU64
set_option linter.unusedVariables false
namespace Go.Proofs.Ytnjdjmfjkjpelaa
open Go Go.RowKit

def n64s (l : List Nat) : List Value := l.map fun x : Nat => .int .i64 (x : Int)
theorem n64s_length (l : List Nat) : (n64s l).length = l.length := by simp [n64s]
theorem n64s_append (a b : List Nat) : n64s (a ++ b) = n64s a ++ n64s b := by simp [n64s]
theorem Try.infoInt : (Try.prog.info? 3).map (fun i => (i.zero, i.size, i.bytes)) = some (some (.int .i64 0), 1, 8) := by kernel_rfl
theorem Try.elemInt : Elem Try.prog 24 3 1 8 := Elem.mk' Try.underlying24 Try.infoInt rfl (by decide)

/-- Two rows of the call's own: the values and the counts of runs. -/
structure TwoRows (w wr : World) (rs : List (Nat × Nat)) (rv rc : Value) : Prop where
  vals : wr.ownsRow w.heap.size 29 1 rv rs.length (u64s (rs.map Prod.fst))
  cnts : wr.ownsRow w.heap.size 3 1 rc rs.length (n64s (rs.map Prod.snd))
  apart : ∀ k, rv.ownBlock = some k → rc.ownBlock ≠ some k
  bel : Below w.heap.size w wr
theorem TwoRows.drewN {w wr : World} {rs : List (Nat × Nat)} {rv rc : Value} (h : TwoRows w wr rs rv rc) (n : Nat) : TwoRows w (wr.drewN n) rs rv rc :=
  ⟨(Mods.drewN (fun _ => False) wr n).owns h.vals (fun _ _ e => e), (Mods.drewN (fun _ => False) wr n).owns h.cnts (fun _ _ e => e), h.apart, h.bel.trans ((Mods.drewN (fun _ => False) wr n).below h.bel.size (fun _ _ e => e))⟩
/-- A value and a count appended, one after the other. -/
theorem TwoRows.pushed {w wr w1 w2 : World} {rs : List (Nat × Nat)} {rv rc v1 v2 : Value} {x : Nat} (h : TwoRows w wr rs rv rc)
    (k1 : w1.ownsRow 0 29 1 v1 (rs.length + 1) (u64s (rs.map Prod.fst) ++ [.int .u64 (x : Int)])) (m1 : Mods (fun k => rv.ownBlock = some k) wr w1) (f1 : Fresh wr.heap.size rv v1)
    (k2 : w2.ownsRow 0 3 1 v2 (rs.length + 1) (n64s (rs.map Prod.snd) ++ [.int .i64 1])) (m2 : Mods (fun k => rc.ownBlock = some k) w1 w2) (f2 : Fresh w1.heap.size rc v2) : TwoRows w w2 (rs ++ [(x, 1)]) v1 v2 := by
  have hlo1 : ∀ k, v1.ownBlock = some k → w.heap.size ≤ k := fun k hk => by
    rcases f1 k hk with e | e
    · exact (h.vals.lt k e).1
    · have := h.bel.size; omega
  have hlo2 : ∀ k, v2.ownBlock = some k → w.heap.size ≤ k := fun k hk => by
    rcases f2 k hk with e | e
    · exact (h.cnts.lt k e).1
    · have := h.bel.size; have := m1.size; omega
  have hd : ∀ k, v1.ownBlock = some k → rc.ownBlock ≠ some k := fun k hk e => by
    rcases f1 k hk with e1 | e1
    · exact h.apart k e1 e
    · have := (h.cnts.lt k e).2; omega
  have hk1 : w2.ownsRow 0 29 1 v1 (rs.length + 1) (u64s (rs.map Prod.fst) ++ [.int .u64 (x : Int)]) := m2.owns k1 (fun k hk e => hd k hk e)
  refine ⟨?_, ?_, fun k hk e => ?_, ?_⟩
  · rw [List.length_append, List.map_append, u64s_append]
    exact owns_rebase hk1 hlo1
  · rw [List.length_append, List.map_append, n64s_append]
    exact owns_rebase k2 hlo2
  · rcases f2 k e with e1 | e1
    · exact hd k hk e1
    · have := (k1.lt k hk).2; omega
  · exact (h.bel.trans (m1.below h.bel.size (fun k hk e => by have := (h.vals.lt k e).1; omega))).trans (m2.below (Nat.le_trans h.bel.size m1.size) (fun k hk e => by have := (h.cnts.lt k e).1; omega))
/-- The last count is one more. -/
theorem TwoRows.bump {w wr : World} {p : List (Nat × Nat)} {v c : Nat} {rv : Value} {g cap : Nat} (h : TwoRows w wr (p ++ [(v, c)]) rv (.slice (some ⟨g, 0, none⟩) (p ++ [(v, c)]).length cap)) :
    TwoRows w (wr.setCell ⟨g, p.length, none⟩ (.int .i64 ((c + 1 : Nat) : Int))) (p ++ [(v, c + 1)]) rv (.slice (some ⟨g, 0, none⟩) (p ++ [(v, c)]).length cap) := by
  have hm : Mods (fun k => k = g) wr (wr.setCell ⟨g, p.length, none⟩ (.int .i64 ((c + 1 : Nat) : Int))) := Mods.set _ _ _ _ (fun _ => rfl)
  have hgv : ∀ k, rv.ownBlock = some k → ¬ k = g := fun k hk e => h.apart k hk (by rw [e]; rfl)
  have hg := (h.cnts.lt g rfl).1
  have hl : (p ++ [(v, c + 1)]).length = (p ++ [(v, c)]).length := by simp
  refine ⟨?_, ?_, h.apart, h.bel.trans (hm.below h.bel.size (fun k hk e => by omega))⟩
  · have e : (p ++ [(v, c + 1)]).map Prod.fst = (p ++ [(v, c)]).map Prod.fst := by simp
    rw [hl, e]
    exact hm.owns h.vals hgv
  · have e : n64s ((p ++ [(v, c + 1)]).map Prod.snd) = (n64s ((p ++ [(v, c)]).map Prod.snd)).set p.length (.int .i64 ((c + 1 : Nat) : Int)) := by
      simp [n64s, List.set_append_right]
    rw [hl, e]
    exact (h.cnts.stored p.length _).1

set_option maxRecDepth 20000 in
set_option maxHeartbeats 4000000 in
theorem ref_split07 (lv : Value) (l : List Nat) (w : World) (hl : Rd w 1 lv l.length (u64s l)) (hn : l.length ≤ 1000000000000) :
    Calls Try.prog 10 #[lv] w fun e w' => ∃ rv rc, e = .returned (.tuple #[rv, rc]) ∧ TwoRows w w' (splitR l) rv rc := by
  have HL := Lib.hid hl; have HNn := Lib.hid hn
  obtain ⟨pl, cl, hv⟩ := hl.shape
  subst hv
  clear hl hn
  go_enter Try.func10, Try.ntmps10
  go_wp2_with fail
  go_loopw [4, 5, 6] (fun vv cv iv wr => ∃ (j : Nat), j ≤ l.length ∧ iv = .int .i64 (j : Int) ∧ Hid (TwoRows w wr (splitR (l.take j)) vv cv)) (fun _ _ iv _ => l.length - (intOf iv).toNat)
  case atStart => exact ⟨0, by omega, rfl, World.ownsRow_nil _ _ _ _, World.ownsRow_nil _ _ _ _, (fun k e => by cases e), Below.refl _ _⟩
  case round =>
    obtain ⟨j, hj, rfl, HTw⟩ := hrel
    by_cases hlt : j < l.length
    · have hlt' : (j : Int) < (l.length : Int) := by omega
      have hji : (j : Int) ≤ 1000000000000 := by have := HNn.out; omega
      have HLr := Lib.hid (HL.out.below HTw.out.bel)
      obtain ⟨b, off, c', e, hnc, hncm, hcell⟩ := HLr.out.at (fun e => by have := congrArg List.length e; rw [u64s_length] at this; simp at this; subst this; simp at hlt)
      simp only [Value.slice.injEq] at e
      obtain ⟨rfl, _, rfl⟩ := e
      obtain ⟨x, hx⟩ : ∃ x, l[j] = x := ⟨_, rfl⟩
      have hct : wr.cell? ⟨b, off + j, none⟩ = some (.int .u64 (x : Int)) := by rw [← hx]; exact hcell j _ (u64s_get l j hlt)
      have HSt : Hid (splitR (l.take (j + 1)) = addR (splitR (l.take j)) x) := by show _ = _; rw [List.take_add_one, List.getElem?_eq_getElem hlt, hx]; exact splitR_push _ _
      have hSl : (splitR (l.take j)).length ≤ 1000000000000 := by have := splitR_len (l.take j); rw [List.length_take] at this; have := HNn.out; omega
      clear hcell hx hnc hncm
      generalize hrs : splitR (l.take j) = rs at *
      clear hrs
      obtain ⟨pv, cv, hvv⟩ := (Rd.of_owns HTw.out.vals).shape
      obtain ⟨pc, cc, hvc⟩ := (Rd.of_owns HTw.out.cnts).shape
      subst hvv; subst hvc
      rcases cases_last rs with rfl | ⟨p, v, c, rfl⟩
      · rw [addR_nil] at HSt
        simp only [List.length_nil] at HTw ⊢
        have HNl0 : Hid (([] : List (Nat × Nat)).length = 0) := rfl
        go_wp2_with fail
        go_quiet (fail)
        have hct2 : (wr.drewN nq).cell? ⟨b, off + j, none⟩ = some (.int .u64 (x : Int)) := hct
        have HTn : Hid (TwoRows w (wr.drewN nq) [] (.slice pv 0 cv) (.slice pc 0 cc)) := HTw.out.drewN _
        clear HTw HLr
        generalize wr.drewN nq = wn at *
        have HLb : Hid (1 * 8 ≤ 140737488355328 ∧ 0 + 1 ≤ maxLen) := by show _ ∧ _; unfold maxLen; omega
        have HOv : Hid (wn.ownsRow 0 29 1 (.slice pv 0 cv) 0 (u64s (([] : List (Nat × Nat)).map Prod.fst))) := by
          have h := owns_rebase HTn.out.vals (base' := 0) (fun _ _ => Nat.zero_le _)
          rw [HNl0.out] at h
          exact h
        have HOc : Hid (∀ w', Mods (fun k => (Value.slice pv 0 cv).ownBlock = some k) wn w' → w'.ownsRow 0 3 1 (.slice pc 0 cc) 0 (n64s (([] : List (Nat × Nat)).map Prod.snd))) := fun w' hm => by
          have h := hm.owns (owns_rebase HTn.out.cnts (base' := 0) (fun _ _ => Nat.zero_le _)) (fun k hk e => HTn.out.apart k e hk)
          rw [HNl0.out] at h
          exact h
        go_wp2_with (at_builtin; refine wpList_push Try.elemU64 wn #[.int .u64 (x : Int)] _ _ _ HOv.out rfl (one_cell _ rfl) HLb.out rfl _ _ rfl rfl rfl ?_)
        intro v1 w1 k1 m1 f1
        have K1 := Lib.hid k1; have M1 := Lib.hid m1; have F1 := Lib.hid f1
        have HO1 := Lib.hid (HOc.out _ m1)
        obtain ⟨p1, c1, hv1⟩ := (Rd.of_owns k1).shape
        subst hv1
        clear k1 m1 f1
        go_wp2_with (at_builtin; refine wpList_push Try.elemInt w1 #[.int .i64 1] _ _ _ HO1.out rfl (one_cell _ rfl) HLb.out rfl _ _ rfl rfl rfl ?_)
        intro v2 w2 k2 m2 f2
        have HT2 : Hid (TwoRows w w2 (splitR (l.take (j + 1))) (.slice p1 1 c1) v2) := by
          show TwoRows _ _ _ _ _
          rw [HSt.out]
          exact HTn.out.pushed (by rw [HNl0.out]; exact K1.out) M1.out F1.out (by rw [HNl0.out]; exact k2) m2 f2
        obtain ⟨p2, c2, hv2⟩ := (Rd.of_owns k2).shape
        subst hv2
        clear k2 m2 f2 HTn HOv HOc HO1 K1 M1 F1
        go_wp2_with fail
        go_round
        case rel => exact ⟨j + 1, by omega, by go_num, HT2.out⟩
        case measure => simp [intOf]; omega
      · obtain ⟨gv, cv', hvv⟩ : ∃ g cap, (Value.slice pv (p ++ [(v, c)]).length cv) = .slice (some ⟨g, 0, none⟩) (p ++ [(v, c)]).length cap := by
          rcases owns_cases HTw.out.vals with ⟨_, h0, _⟩ | ⟨g, cap, hv, _⟩
          · simp at h0
          · exact ⟨g, cap, hv⟩
        obtain ⟨gc, cc', hvc⟩ : ∃ g cap, (Value.slice pc (p ++ [(v, c)]).length cc) = .slice (some ⟨g, 0, none⟩) (p ++ [(v, c)]).length cap := by
          rcases owns_cases HTw.out.cnts with ⟨_, h0, _⟩ | ⟨g, cap, hv, _⟩
          · simp at h0
          · exact ⟨g, cap, hv⟩
        simp only [Value.slice.injEq] at hvv hvc
        obtain ⟨rfl, _, rfl⟩ := hvv
        obtain ⟨rfl, _, rfl⟩ := hvc
        have hcv : wr.cell? ⟨gv, p.length, none⟩ = some (.int .u64 (v : Int)) := by
          rw [HTw.out.vals.cellAt p.length (by simp)]; simp [u64s]
        have hcc : wr.cell? ⟨gc, p.length, none⟩ = some (.int .i64 (c : Int)) := by
          rw [HTw.out.cnts.cellAt p.length (by simp)]; simp [n64s]
        have hfc : wr.frozen? ⟨gc, p.length, none⟩ = false := HTw.out.cnts.frozenAt _
        have HBm : Hid (∀ nq, TwoRows w ((wr.drewN nq).setCell ⟨gc, p.length, none⟩ (.int .i64 ((c + 1 : Nat) : Int))) (p ++ [(v, c + 1)]) (.slice (some ⟨gv, 0, none⟩) (p ++ [(v, c)]).length cv) (.slice (some ⟨gc, 0, none⟩) (p ++ [(v, c)]).length cc)) := fun nq => (HTw.out.drewN nq).bump
        have hNm0 : (p ++ [(v, c)]).length = p.length + 1 := by simp
        rw [addR_last] at HSt
        obtain ⟨N, hN⟩ : ∃ N, (p ++ [(v, c)]).length = N := ⟨_, rfl⟩
        obtain ⟨m, hm⟩ : ∃ m, p.length = m := ⟨_, rfl⟩
        rw [hN] at HTw HBm hNm0 ⊢
        rw [hm] at hcv hcc hfc hNm0 HBm
        have HNl : Hid ((p ++ [(v, c)]).length = N) := hN
        have hNi : (N : Int) - 1 = (m : Int) := by omega
        have hmN : (m : Int) < (N : Int) := by omega
        have hm0 : (0 : Int) ≤ (m : Int) := by omega
        have hN5 : N ≤ 1000000000000 := by rw [← hN]; exact hSl
        clear hSl hNm0 hm hN
        have HN5 : Hid (N ≤ 1000000000000) := hN5
        have hmi : (m : Int) ≤ 1000000000000 := by omega
        clear hN5
        by_cases hvx : v = x
        · subst hvx
          by_cases hc : c < 128
          · have hc' : (c : Int) < 128 := by omega
            rw [if_pos ⟨rfl, hc⟩] at HSt
            clear hc
            go_wp2_with fail
            go_quiet (fail)
            have HB2 : Hid (TwoRows w ((wr.drewN nq).setCell ⟨gc, m, none⟩ (.int .i64 ((c : Int) + 1))) (p ++ [(v, c + 1)]) (.slice (some ⟨gv, 0, none⟩) N cv) (.slice (some ⟨gc, 0, none⟩) N cc)) := HBm.out nq
            have hcc2 : (wr.drewN nq).cell? ⟨gc, m, none⟩ = some (.int .i64 (c : Int)) := hcc
            have hfc2 : (wr.drewN nq).frozen? ⟨gc, m, none⟩ = false := hfc
            clear HTw HLr HBm hcc hfc hcv hct
            generalize wr.drewN nq = wn at *
            go_wp2_with fail
            go_round
            case rel => exact ⟨j + 1, by omega, by go_num, by rw [HSt.out]; exact HB2.out⟩
            case measure => simp [intOf]; omega
          · have hc' : ¬ (c : Int) < 128 := by omega
            rw [if_neg (fun h => hc h.2)] at HSt
            clear hc
            go_wp2_with fail
            go_quiet (fail)
            have hct2 : (wr.drewN nq).cell? ⟨b, off + j, none⟩ = some (.int .u64 (v : Int)) := hct
            have HTn : Hid (TwoRows w (wr.drewN nq) (p ++ [(v, c)]) (.slice (some ⟨gv, 0, none⟩) N cv) (.slice (some ⟨gc, 0, none⟩) N cc)) := HTw.out.drewN _
            clear HTw HLr
            clear hcv hcc hfc hct hNi hmN hm0 hmi HBm
            generalize wr.drewN nq = wn at *
            have HLb : Hid ((N + 1) * 8 ≤ 140737488355328 ∧ N + 1 ≤ maxLen) := by show _ ∧ _; have := HN5.out; unfold maxLen; omega
            obtain ⟨VS, hVS⟩ : ∃ VS, u64s ((p ++ [(v, c)]).map Prod.fst) = VS := ⟨_, rfl⟩
            obtain ⟨CS, hCS⟩ : ∃ CS, n64s ((p ++ [(v, c)]).map Prod.snd) = CS := ⟨_, rfl⟩
            have HVS := Lib.hid hVS; have HCS := Lib.hid hCS
            clear hVS hCS
            have HOv : Hid (wn.ownsRow 0 29 1 (.slice (some ⟨gv, 0, none⟩) N cv) N VS) := by
              have h := owns_rebase HTn.out.vals (base' := 0) (fun _ _ => Nat.zero_le _)
              rw [HNl.out, HVS.out] at h
              exact h
            have HOc : Hid (∀ w', Mods (fun k => (Value.slice (some ⟨gv, 0, none⟩) N cv).ownBlock = some k) wn w' → w'.ownsRow 0 3 1 (.slice (some ⟨gc, 0, none⟩) N cc) N CS) := fun w' hm => by
              have h := hm.owns (owns_rebase HTn.out.cnts (base' := 0) (fun _ _ => Nat.zero_le _)) (fun k hk e => HTn.out.apart k e hk)
              rw [HNl.out, HCS.out] at h
              exact h
            go_wp2_with (at_builtin; refine wpList_push Try.elemU64 wn #[.int .u64 (v : Int)] _ _ _ HOv.out rfl (one_cell _ rfl) HLb.out rfl _ _ rfl rfl rfl ?_)
            intro v1 w1 k1 m1 f1
            have K1 := Lib.hid k1; have M1 := Lib.hid m1; have F1 := Lib.hid f1
            have HO1 := Lib.hid (HOc.out _ m1)
            obtain ⟨p1, c1, hv1⟩ := (Rd.of_owns k1).shape
            subst hv1
            clear k1 m1 f1
            go_wp2_with (at_builtin; refine wpList_push Try.elemInt w1 #[.int .i64 1] _ _ _ HO1.out rfl (one_cell _ rfl) HLb.out rfl _ _ rfl rfl rfl ?_)
            intro v2 w2 k2 m2 f2
            have HT2 : Hid (TwoRows w w2 (splitR (l.take (j + 1))) (.slice p1 (N + 1) c1) v2) := by
              show TwoRows _ _ _ _ _
              rw [HSt.out]
              exact HTn.out.pushed (by rw [HNl.out, HVS.out]; exact K1.out) M1.out F1.out (by rw [HNl.out, HCS.out]; exact k2) m2 f2
            obtain ⟨p2, c2, hv2⟩ := (Rd.of_owns k2).shape
            subst hv2
            clear k2 m2 f2 HTn HOv HOc HO1 K1 M1 F1
            go_wp2_with fail
            go_round
            case rel => exact ⟨j + 1, by omega, by go_num, HT2.out⟩
            case measure => simp [intOf]; omega
        · have hvb : ((v : Int) == (x : Int)) = false := by rw [beq_eq_false_iff_ne]; omega
          have hvn : ¬ (v : Int) = (x : Int) := by omega
          rw [if_neg (fun h => hvx h.1)] at HSt
          clear hvx
          go_wp2_with fail
          go_quiet (fail)
          have hct2 : (wr.drewN nq).cell? ⟨b, off + j, none⟩ = some (.int .u64 (x : Int)) := hct
          have HTn : Hid (TwoRows w (wr.drewN nq) (p ++ [(v, c)]) (.slice (some ⟨gv, 0, none⟩) N cv) (.slice (some ⟨gc, 0, none⟩) N cc)) := HTw.out.drewN _
          clear HTw HLr
          generalize wr.drewN nq = wn at *
          have HLb : Hid ((N + 1) * 8 ≤ 140737488355328 ∧ N + 1 ≤ maxLen) := by show _ ∧ _; have := HN5.out; unfold maxLen; omega
          obtain ⟨VS, hVS⟩ : ∃ VS, u64s ((p ++ [(v, c)]).map Prod.fst) = VS := ⟨_, rfl⟩
          obtain ⟨CS, hCS⟩ : ∃ CS, n64s ((p ++ [(v, c)]).map Prod.snd) = CS := ⟨_, rfl⟩
          have HVS := Lib.hid hVS; have HCS := Lib.hid hCS
          clear hVS hCS
          have HOv : Hid (wn.ownsRow 0 29 1 (.slice (some ⟨gv, 0, none⟩) N cv) N VS) := by
            have h := owns_rebase HTn.out.vals (base' := 0) (fun _ _ => Nat.zero_le _)
            rw [HNl.out, HVS.out] at h
            exact h
          have HOc : Hid (∀ w', Mods (fun k => (Value.slice (some ⟨gv, 0, none⟩) N cv).ownBlock = some k) wn w' → w'.ownsRow 0 3 1 (.slice (some ⟨gc, 0, none⟩) N cc) N CS) := fun w' hm => by
            have h := hm.owns (owns_rebase HTn.out.cnts (base' := 0) (fun _ _ => Nat.zero_le _)) (fun k hk e => HTn.out.apart k e hk)
            rw [HNl.out, HCS.out] at h
            exact h
          go_wp2_with (at_builtin; refine wpList_push Try.elemU64 wn #[.int .u64 (x : Int)] _ _ _ HOv.out rfl (one_cell _ rfl) HLb.out rfl _ _ rfl rfl rfl ?_)
          intro v1 w1 k1 m1 f1
          have K1 := Lib.hid k1; have M1 := Lib.hid m1; have F1 := Lib.hid f1
          have HO1 := Lib.hid (HOc.out _ m1)
          obtain ⟨p1, c1, hv1⟩ := (Rd.of_owns k1).shape
          subst hv1
          clear k1 m1 f1
          go_wp2_with (at_builtin; refine wpList_push Try.elemInt w1 #[.int .i64 1] _ _ _ HO1.out rfl (one_cell _ rfl) HLb.out rfl _ _ rfl rfl rfl ?_)
          intro v2 w2 k2 m2 f2
          have HT2 : Hid (TwoRows w w2 (splitR (l.take (j + 1))) (.slice p1 (N + 1) c1) v2) := by
            show TwoRows _ _ _ _ _
            rw [HSt.out]
            exact HTn.out.pushed (by rw [HNl.out, HVS.out]; exact K1.out) M1.out F1.out (by rw [HNl.out, HCS.out]; exact k2) m2 f2
          obtain ⟨p2, c2, hv2⟩ := (Rd.of_owns k2).shape
          subst hv2
          clear k2 m2 f2 HTn HOv HOc HO1 K1 M1 F1
          go_wp2_with fail
          go_round
          case rel => exact ⟨j + 1, by omega, by go_num, HT2.out⟩
          case measure => simp [intOf]; omega
    · have hlt' : ¬ (j : Int) < (l.length : Int) := by omega
      have HD : Hid (splitR (l.take j) = splitR l) := by show _ = _; rw [List.take_of_length_le (by omega)]
      rw [HD.out] at HTw
      go_wp2_with fail
      go_ret2
      exact ⟨_, _, rfl, HTw.out⟩
end Go.Proofs.Ytnjdjmfjkjpelaa
