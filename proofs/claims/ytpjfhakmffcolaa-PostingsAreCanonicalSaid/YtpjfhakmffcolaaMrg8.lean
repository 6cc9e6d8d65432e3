/- Ref15B, Ref15C, Ref15D, FlatLab, OpenW, Field15, AlivL, TabS, PoT, in one text. -/
import Derived.Test.YtpjfhakmffcolaaMrg7
import Derived.Test.YtpjfhakmffcolaaMrg2
import Derived.Test.YtpjfhakmffcolaaMrg6
import Derived.Test.YtpjfhakmffcolaaMrg5
import Derived.Test.YtpjfhakmffcolaaMrg1
import Derived.Test.YtpjfhakmffcolaaMrg4

section
/- Layer 15: the reference's insert. -/
set_option linter.unusedVariables false
set_option maxRecDepth 20000
namespace Go.Proofs.Ytpjfhakmffcolaa
open Go Go.RowKit

theorem elemEnt : Elem Try.prog 27 67 3 56 := Elem.mk' (z := .agg #[.string ⟨#[]⟩, .string ⟨#[]⟩, .slice none 0 0]) Try.underlying27 (by kernel_rfl) rfl (by decide)
theorem EnAt.lower {t : TypeId} {w w1 wr : World} {M : List EntV} {v : Value} (h : EnAt t w1 wr M v) (hb : Below w.heap.size w w1) : EnAt t w wr M v :=
  ⟨owns_rebase h.row (fun k hk => Nat.le_trans hb.size (h.row.lt k hk).1), hb.trans (h.bel.mono hb.size), h.ser⟩
theorem fold_take {x : Lab} {n : Int} {l : List Ent} {i : Nat} {e : Ent} (h : l[i]? = some e) : (l.take (i + 1)).foldl (insStep x n) ([], false) = insStep x n ((l.take i).foldl (insStep x n) ([], false)) e := by
  rw [List.take_add_one, h, List.foldl_append]; rfl

/-- A number put in: the list that came in, or one of the call's own. -/
theorem ins14 (lv : Value) (l : List Int) (x : Int) (w : World) (hl : Rd w 1 lv l.length (i64s l)) (ha : AscB ltI l) (hn : l.length ≤ 1000000) :
    Calls Try.prog 63 #[lv, .int .i64 x] w fun e w' => ∃ v, e = .returned v ∧ Rd w' 1 v (insB ltI x l).length (i64s (insB ltI x l)) ∧ Below w.heap.size w w' ∧ ((v = lv ∧ insB ltI x l = l) ∨ ∀ k, v.ownBlock = some k → w.heap.size ≤ k) :=
  (ref_insert14 lv l x w hl ha hn).mono fun e w' h => by
    rcases h with ⟨he, h1, rfl⟩ | ⟨v, he, hO⟩
    · exact ⟨lv, he, by rw [h1]; exact hl, Below.refl _ _, Or.inl ⟨rfl, h1⟩⟩
    · exact ⟨v, he, hO.rd, hO.bel, Or.inr fun k hk => (hO.row.lt k hk).1⟩

set_option maxHeartbeats 16000000 in
theorem ref_insert15 (lv : Value) (l : List Ent) (x : Lab) (n : Int) (w : World) (h : RdE w lv l) (hn : l.length ≤ 100000) (hs : ∀ e ∈ l, AscB ltI e.2 ∧ e.2.length ≤ 1000000) :
    Calls Try.prog 36 #[lv, .agg #[.string x.1, .string x.2], .int .i64 n] w fun e w' => ∃ v, e = .returned v ∧ ∃ M, EnAt 67 w w' M v ∧ M.map Prod.fst = insR x n l := by
  obtain ⟨x1, x2⟩ := x
  have H := Lib.hid h; have HS := Lib.hid hs
  obtain ⟨p, c, hv⟩ := h.shape
  subst hv
  have hmx : (l.length : Int) ≤ 100000 := by omega
  have HN : Hid (l.length ≤ 100000) := hn
  obtain ⟨w1, hw1⟩ : ∃ w1, w1 = w.alloc (.cells #[.string x1, .string x2] 34) := ⟨_, rfl⟩
  have HW : Hid (w.alloc (.cells #[.string x1, .string x2] 34) = w1) := hw1.symm
  have HB1 : Hid (Below w.heap.size w w1) := by show Below _ _ _; rw [hw1]; exact (Below.refl _ w).alloc (Nat.le_refl _) _
  have HX1 : Hid (Blk w1 w.heap.size [.string x1, .string x2]) := by show Blk _ _ _; rw [hw1]; exact Blk.new w _ _
  have HS1 : Hid (w1.heap.size = w.heap.size + 1) := by show _ = _; rw [hw1]; simp
  obtain ⟨bx, hbx⟩ : ∃ bx, w.heap.size = bx := ⟨_, rfl⟩
  have HBx := Lib.hid hbx
  rw [hbx] at HX1 HS1
  clear h hn hs hw1 hbx
  go_enter Try.func36, Try.ntmps36
  go_wp2_with fail
  rw [HW.out, HBx.out]
  clear HW
  go_loopw [7, 8, 9] (fun vv dv iv wr => ∃ (i : Nat) (M : List EntV) (d : Bool), i ≤ l.length ∧ iv = .int .i64 (i : Int) ∧ dv = .bool d ∧ M.length ≤ 2 * i ∧ Hid (EnAt 67 w1 wr M vv) ∧ Hid ((l.take i).foldl (insStep (x1, x2) n) ([], false) = (M.map Prod.fst, d))) (fun _ _ iv _ => l.length - (intOf iv).toNat)
  case atStart => exact ⟨0, [], false, Nat.zero_le _, rfl, rfl, by simp, EnAt.nil w1, rfl⟩
  case round =>
    obtain ⟨i, M, d, hi, rfl, rfl, hML, HA, HF⟩ := hrel
    have him : (i : Int) ≤ 100000 := by omega
    have HM : Hid (M.length ≤ 2 * i) := hML
    clear hML
    obtain ⟨pv, cv, hvv⟩ := HA.out.shape
    subst hvv
    obtain ⟨m, hm⟩ : ∃ m, M.length = m := ⟨_, rfl⟩
    have HMe := Lib.hid hm
    rw [hm] at HA HM ⊢
    clear hm
    by_cases hlt : i < l.length
    · have hlt' : (i : Int) < (l.length : Int) := by omega
      obtain ⟨⟨⟨e1, e2⟩, es⟩, hx⟩ : ∃ s, l[i]? = some s := ⟨_, List.getElem?_eq_getElem hlt⟩
      obtain ⟨b, off, q, d', e, hal⟩ := H.out.always hx
      subst e
      have HAl := Lib.hid hal
      have HEs : Hid (AscB ltI es ∧ es.length ≤ 1000000) := HS.out _ (List.mem_of_getElem? hx)
      have HSt := Lib.hid (fold_take (x := (x1, x2)) (n := n) hx)
      have HQ : Hid (es ≠ [] → ∀ k, (Value.slice q es.length d').ownBlock = some k → k < w.heap.size) := fun e k hk => (hal w (Below.refl _ _)).2.lt (i64s_ne15' e) k hk
      simp only at HAl
      clear hx hal
      have HG : Hid (∀ n os, Below w.heap.size w (Go.Sort.grow (wr.drewN n) os) ∧ Blk (Go.Sort.grow (wr.drewN n) os) bx [.string x1, .string x2]) := fun n os => by
        have hg : Grw wr (Go.Sort.grow (wr.drewN n) os) := (Grw.refl wr).grow n os
        exact ⟨(HB1.out.trans (HA.out.bel.mono HB1.out.size)).trans (hg.below.mono (HB1.out.trans (HA.out.bel.mono HB1.out.size)).size), hg.blk (HX1.out.of_same (HA.out.bel.block _ HX1.out.lt))⟩
      have y0 : ∀ n os, (Go.Sort.grow (wr.drewN n) os).cell? ⟨b, off + i * 3, none⟩ = some (.string e1) := fun n os => (HAl.out _ (HG.out n os).1).1.1
      have y1 : ∀ n os, (Go.Sort.grow (wr.drewN n) os).cell? ⟨b, off + i * 3 + 1, none⟩ = some (.string e2) := fun n os => (HAl.out _ (HG.out n os).1).1.2.1
      have x0 : ∀ n os, (Go.Sort.grow (wr.drewN n) os).cell? ⟨bx, 0, none⟩ = some (.string x1) := fun n os => by rw [(HG.out n os).2.cell]; rfl
      have x1' : ∀ n os, (Go.Sort.grow (wr.drewN n) os).cell? ⟨bx, 1, none⟩ = some (.string x2) := fun n os => by rw [(HG.out n os).2.cell]; rfl
      have HXC : Hid (∀ n os, Calls Try.prog 54 #[.agg #[.string e1, .string e2], .agg #[.string x1, .string x2]] (Go.Sort.grow (wr.drewN n) os) fun e w' => e = .returned (.int .i64 (cmpLab (e1, e2) (x1, x2))) ∧ ∃ q os', w' = Go.Sort.grow ((Go.Sort.grow (wr.drewN n) os).drewN q) os') := fun n os => ref_compare15 (e1, e2) (x1, x2) _
      have hdom := cmpLab_ok.dom (e1, e2) (x1, x2)
      have HSt2 : Hid ((l.take (i + 1)).foldl (insStep (x1, x2) n) ([], false) = if cmpLab (e1, e2) (x1, x2) = 0 then ((if 0 < cmpLab (e1, e2) (x1, x2) ∧ d = false then (M.map Prod.fst ++ [((x1, x2), [n])], true) else (M.map Prod.fst, d)).1 ++ [((x1, x2), insB ltI n es)], true) else ((if 0 < cmpLab (e1, e2) (x1, x2) ∧ d = false then (M.map Prod.fst ++ [((x1, x2), [n])], true) else (M.map Prod.fst, d)).1 ++ [((e1, e2), es)], (if 0 < cmpLab (e1, e2) (x1, x2) ∧ d = false then (M.map Prod.fst ++ [((x1, x2), [n])], true) else (M.map Prod.fst, d)).2)) := by
        show _ = _
        rw [HSt.out, HF.out]; rfl
      generalize cmpLab (e1, e2) (x1, x2) = cv2 at *
      clear HSt
      go_wp2_with fail
      have mixed : Try.prog.follows .mixedOrders = true := by kernel_rfl
      go_quiet_grown (first | (go_at_call 54; exact Calls.grown_of (HXC.out _ _)))
      have hg2 : Grw wr (Go.Sort.grow (wr.drewN nq) osq) := (Grw.refl wr).grow nq osq
      have HA2 := Lib.hid (HA.out.below hg2.below)
      clear y0 y1 x0 x1' HXC HG mixed hg2 HA
      show Exit.then _ _ _ _ (Go.Sort.grow (wr.drewN nq) osq)
      generalize Go.Sort.grow (wr.drewN nq) osq = w2 at *
      have HB2 : Hid (Below w.heap.size w w2) := HB1.out.trans (HA2.out.bel.mono HB1.out.size)
      have HX2 : Hid (Blk w2 bx [.string x1, .string x2]) := HX1.out.of_same (HA2.out.bel.block _ HX1.out.lt)


      rcases hdom with rfl | rfl | rfl
      · have HE : Hid ((l.take (i + 1)).foldl (insStep (x1, x2) n) ([], false) = (M.map Prod.fst ++ [((e1, e2), es)], d)) := by show _ = _; have := HSt2.out; simpa using this
        clear HSt2
        obtain ⟨⟨c0, c1, c2⟩, _⟩ := HAl.out w2 HB2.out
        have hbE : Below w2.heap.size w2 (w2.alloc (.cells #[.string e1, .string e2, .slice q es.length d'] 67)) := (Below.refl _ _).alloc (Nat.le_refl _) _
        have HBE : Hid (Below w.heap.size w (w2.alloc (.cells #[.string e1, .string e2, .slice q es.length d'] 67))) := HB2.out.trans (hbE.mono HB2.out.size)
        have HAE := Lib.hid (HA2.out.below hbE)
        have HOv : Hid ((w2.alloc (.cells #[.string e1, .string e2, .slice q es.length d'] 67)).ownsRow 0 67 3 (.slice pv m cv) m (entCells M)) := by
          show World.ownsRow _ _ _ _ _ _ _
          have h := HAE.out.base0
          rw [HMe.out] at h
          exact h
        have HSz : Hid ((w2.alloc (.cells #[.string e1, .string e2, .slice q es.length d'] 67)).heap.size = w2.heap.size + 1) := by show _ = _; simp
        have HLb : Hid ((m + 1) * 56 ≤ 140737488355328 ∧ m + 1 ≤ maxLen) := by show _ ∧ _; have := HM.out; have := HN.out; unfold maxLen; omega
        clear hbE
        go_wp2_with (at_builtin; refine wpList_push elemEnt (w2.alloc (.cells #[.string e1, .string e2, .slice q es.length d'] 67)) #[.string e1, .string e2, .slice q es.length d'] _ _ _ HOv.out rfl (by simp [Value.oneCell']) HLb.out rfl _ _ rfl rfl ?hxx1 ?_)
        try (case hxx1 => (rw [HSz.out]; rfl))
        intro v9 w9 r1 r2 r3
        rw [← HSz.out] at r3
        clear HSz
        have HA9 : Hid (EnAt 67 w1 w9 (M ++ [(((e1, e2), es), .slice q es.length d')]) v9) := by
          refine HAE.out.pushed (p := (((e1, e2), es), .slice q es.length d')) (HAl.out _ HBE.out).2 (fun he j hj hv => ?_) (by rw [HMe.out]; exact r1) r2 r3
          have h1 := HQ.out he j hj
          have h2 := (HAE.out.row.lt j hv).1
          have h3 := HB1.out.size
          omega
        obtain ⟨pv9, cv9, hv⟩ := HA9.out.shape
        subst hv
        clear r1 r2 r3 HOv HLb HAE HBE c0 c1 c2
        go_wp2_with fail
        go_round
        case rel => exact ⟨i + 1, _, d, by omega, by go_num, rfl, by simp only [List.length_append, List.length_cons, List.length_nil, HMe.out]; have := HM.out; omega, HA9.out, by show _ = _; rw [HE.out, List.map_append]; try rfl; try simp⟩
        case measure => simp [intOf]; omega
      · have HE : Hid ((l.take (i + 1)).foldl (insStep (x1, x2) n) ([], false) = (M.map Prod.fst ++ [((x1, x2), insB ltI n es)], true)) := by show _ = _; have := HSt2.out; simpa using this
        clear HSt2
        obtain ⟨⟨c0, c1, c2⟩, _⟩ := HAl.out w2 HB2.out
        have hbE : Below w2.heap.size w2 (w2.alloc (.cells #[.string e1, .string e2, .slice q es.length d'] 67)) := (Below.refl _ _).alloc (Nat.le_refl _) _
        have HBE : Hid (Below w.heap.size w (w2.alloc (.cells #[.string e1, .string e2, .slice q es.length d'] 67))) := HB2.out.trans (hbE.mono HB2.out.size)
        have HAE := Lib.hid (HA2.out.below hbE)
        obtain ⟨W3, hW3⟩ : ∃ W3, W3 = w2.alloc (.cells #[.string e1, .string e2, .slice q es.length d'] 67) := ⟨_, rfl⟩
        have HW3 : Hid (w2.alloc (.cells #[.string e1, .string e2, .slice q es.length d'] 67) = W3) := hW3.symm
        have HK3 : Hid (Blk W3 w2.heap.size [.string e1, .string e2, .slice q es.length d']) := by show Blk _ _ _; rw [hW3]; exact Blk.new _ _ _
        have HX3 : Hid (Blk W3 bx [.string x1, .string x2]) := by show Blk _ _ _; rw [hW3]; exact HX2.out.alloc _
        have HB23 : Hid (Below w2.heap.size w2 W3) := by show Below _ _ _; rw [hW3]; exact hbE
        have HRl : Hid (∀ k, (Value.slice pv m cv).ownBlock = some k → k < w2.heap.size) := fun k hk => (HA2.out.row.lt k hk).2
        have HXl : Hid (bx < w2.heap.size) := HX2.out.lt
        clear hW3 hbE HBE HAE
        go_wp2_with fail
        rw [HW3.out]
        clear c0 c1 c2 HW3
        try go_wp2_with fail
        have HBx3 : Hid (Below w.heap.size w W3) := HB2.out.trans (HB23.out.mono HB2.out.size)
        have HA3 := Lib.hid (HA2.out.below HB23.out)
        obtain ⟨ex, hex⟩ : ∃ ex, w2.heap.size = ex := ⟨_, rfl⟩
        have HEx : Hid (ex < W3.heap.size ∧ bx < ex ∧ ∀ k, (Value.slice pv m cv).ownBlock = some k → k < ex) := by rw [← hex]; exact ⟨HK3.out.lt, HXl.out, HRl.out⟩
        rw [hex] at HK3 HB23 ⊢
        have HEw : Hid (w2.heap.size = ex) := hex
        clear hex HRl HXl
        have HS : Hid (∀ w' : World, (w'.cell? ⟨bx, 0, none⟩ = some (.string x1) ∧ w'.cell? ⟨bx, 1, none⟩ = some (.string x2) ∧ True) → (w'.cell? ⟨bx, 0, none⟩ = some (.string x1) ∧ w'.cell? ⟨bx, 1, none⟩ = some (.string x2) ∧ True)) := fun _ h => h
        refine wp_normal ?_
        refine wp_region_takeH (fun w' : World => w'.cell? ⟨bx, 0, none⟩ = some (.string x1) ∧ w'.cell? ⟨bx, 1, none⟩ = some (.string x2) ∧ True) [2, 4, 6] [0, 1, 3, 2, 4, 5, 6] (by kernel_rfl) (by kernel_rfl) (by kernel_rfl) ?_ ?_ ?_
        · intro c a a' w hd h; cases h.1
        · exact ⟨by rw [HX3.out.drew.cell]; rfl, by rw [HX3.out.drew.cell]; rfl, trivial⟩
        simp only [taken, List.map_cons, List.map_nil, List.getElem?_cons_succ, List.getElem?_cons_zero, Option.getD_some]
        have hbd : Below W3.heap.size W3 W3.drew := (Mods.drew (fun _ => False) W3).below (Nat.le_refl _) (fun _ _ e => e)
        have HB24 : Hid (Below ex w2 W3.drew) := HB23.out.trans (hbd.mono (by have := HEx.out.1; omega))
        have HBx4 : Hid (Below w.heap.size w W3.drew) := HBx3.out.trans (hbd.mono HBx3.out.size)
        have HK4 : Hid (Blk W3.drew ex [.string e1, .string e2, .slice q es.length d']) := HK3.out.drew
        have HX4 : Hid (Blk W3.drew bx [.string x1, .string x2]) := HX3.out.drew
        have HE4 : Hid (ex < W3.drew.heap.size) := by show _ < _; have := hbd.size; have := HEx.out.1; omega
        clear hbd HB23 HBx3 HK3 HX3 HA3
        generalize W3.drew = W4 at *
        repeat (first
        | (refine takeH_skip rfl ?_; simp only [Act.put, List.setIfInBounds_toArray, List.set_cons_succ, List.set_cons_zero])
        | (refine takeH_blind rfl rfl ?_; apply Exists.intro; refine ⟨fun w => ?_, ?_⟩; (go_simp; try with_reducible rfl); simp only [Act.put, List.setIfInBounds_toArray, List.set_cons_succ, List.set_cons_zero])
        | (refine takeH_reads rfl rfl ?_; apply Exists.intro; refine ⟨fun w' hS => ?_, ?_⟩; (obtain ⟨d0, d1, d2⟩ := HS.out w' hS; go_simp; try with_reducible rfl); simp only [Act.put, List.setIfInBounds_toArray, List.set_cons_succ, List.set_cons_zero]))
        have g2 : W4.cell? ⟨ex, 2, none⟩ = some (.slice q es.length d') := by rw [HK4.out.cell]; rfl
        refine takeH_call rfl rfl (fun K' hK => ?_)
        go_wp2_with fail
        refine hK _ _ ⟨by rw [HX4.out.cell]; rfl, by rw [HX4.out.cell]; rfl, trivial⟩ ?_
        clear hK K' g2
        repeat (first
        | (refine takeH_skip rfl ?_; simp only [Act.put, List.setIfInBounds_toArray, List.set_cons_succ, List.set_cons_zero])
        | (refine takeH_blind rfl rfl ?_; apply Exists.intro; refine ⟨fun w => ?_, ?_⟩; (go_simp; try with_reducible rfl); simp only [Act.put, List.setIfInBounds_toArray, List.set_cons_succ, List.set_cons_zero])
        | (refine takeH_reads rfl rfl ?_; apply Exists.intro; refine ⟨fun w' hS => ?_, ?_⟩; (obtain ⟨d0, d1, d2⟩ := HS.out w' hS; go_simp; try with_reducible rfl); simp only [Act.put, List.setIfInBounds_toArray, List.set_cons_succ, List.set_cons_zero]))
        refine takeH_call rfl rfl (fun K' hK => ?_)
        go_wp2_with fail
        refine (ins14 _ es n W4 (HAl.out _ HBx4.out).2 HEs.out.1 HEs.out.2).mono ?_
        rintro e W5 ⟨vn, rfl, hR, hB, hvn⟩
        have HR5 := Lib.hid hR
        have HB25 : Hid (Below ex w2 W5) := HB24.out.trans (hB.mono (by have := HE4.out; omega))
        have HBx5 : Hid (Below w.heap.size w W5) := HBx4.out.trans (hB.mono HBx4.out.size)
        have HK5 : Hid (Blk W5 ex [.string e1, .string e2, .slice q es.length d']) := HK4.out.of_same (hB.block _ HK4.out.lt)
        have HX5 : Hid (Blk W5 bx [.string x1, .string x2]) := HX4.out.of_same (hB.block _ HX4.out.lt)
        have HVn : Hid (insB ltI n es ≠ [] → ∀ k, vn.ownBlock = some k → k < w.heap.size ∨ ex < k) := fun hne k hk => by
          rcases hvn with ⟨rfl, hes⟩ | hf
          · exact Or.inl (HQ.out (by rw [← hes]; exact hne) k hk)
          · have := hf k hk
            have := HE4.out
            exact Or.inr (by omega)
        obtain ⟨pn, cn, hv⟩ := hR.shape
        subst hv
        refine hK _ _ ⟨by rw [HX5.out.cell]; rfl, by rw [HX5.out.cell]; rfl, trivial⟩ ?_
        clear hK K' hR hB hvn HK4 HX4 HB24 HBx4 HE4
        generalize insB ltI n es = ns at *
        repeat (first
        | (refine takeH_skip rfl ?_; simp only [Act.put, List.setIfInBounds_toArray, List.set_cons_succ, List.set_cons_zero])
        | (refine takeH_blind rfl rfl ?_; apply Exists.intro; refine ⟨fun w => ?_, ?_⟩; (go_simp; try with_reducible rfl); simp only [Act.put, List.setIfInBounds_toArray, List.set_cons_succ, List.set_cons_zero])
        | (refine takeH_reads rfl rfl ?_; apply Exists.intro; refine ⟨fun w' hS => ?_, ?_⟩; (obtain ⟨d0, d1, d2⟩ := HS.out w' hS; go_simp; try with_reducible rfl); simp only [Act.put, List.setIfInBounds_toArray, List.set_cons_succ, List.set_cons_zero]))
        obtain ⟨⟨g0, g1, g2⟩, f0, f1, f2⟩ := HK5.out.three
        refine takeH_call rfl rfl (fun K' hK => ?_)
        go_wp2_with fail
        obtain ⟨W6, hW6⟩ : ∃ W6, W6 = ((W5.setCell ⟨ex, 0, none⟩ (.string x1)).setCell ⟨ex, 1, none⟩ (.string x2)).setCell ⟨ex, 2, none⟩ (.slice pn ns.length cn) := ⟨_, rfl⟩
        have hm : Mods (fun k => k = ex) W5 W6 := by rw [hW6]; exact mods_set3 W5 ex _ _ _
        have HB26 : Hid (Below ex w2 W6) := HB25.out.trans (hm.below (by have := HB25.out.size; have := HEw.out; omega) (fun k _ e => by have : k = ex := e; omega))
        have HK6 : Hid (Blk W6 ex [.string x1, .string x2, .slice pn ns.length cn]) := by show Blk _ _ _; rw [hW6]; exact HK5.out.set3 _ _ _
        have HX6 : Hid (Blk W6 bx [.string x1, .string x2]) := hm.blk HX5.out (fun e => by have := HEx.out.2.1; omega)
        have HR6 : Hid (Rd W6 1 (.slice pn ns.length cn) ns.length (i64s ns)) := HR5.out.mods' hm (fun hne k hk e => by
          have h1 := HVn.out (i64s_ne15 hne) k hk
          have h2 : k = ex := e
          have h3 := HEx.out.2.1
          have h4 := HBx.out
          omega)
        have HA6 := Lib.hid (HA2.out.below (by rw [HEw.out]; exact HB26.out))
        rw [← hW6]
        refine hK _ _ ⟨by rw [HX6.out.cell]; rfl, by rw [HX6.out.cell]; rfl, trivial⟩ ?_
        clear hK K' hW6 hm g0 g1 g2 f0 f1 f2 HB25 HBx5 HK5 HX5 HR5
        repeat (first
        | (refine takeH_skip rfl ?_; simp only [Act.put, List.setIfInBounds_toArray, List.set_cons_succ, List.set_cons_zero])
        | (refine takeH_blind rfl rfl ?_; apply Exists.intro; refine ⟨fun w => ?_, ?_⟩; (go_simp; try with_reducible rfl); simp only [Act.put, List.setIfInBounds_toArray, List.set_cons_succ, List.set_cons_zero])
        | (refine takeH_reads rfl rfl ?_; apply Exists.intro; refine ⟨fun w' hS => ?_, ?_⟩; (obtain ⟨d0, d1, d2⟩ := HS.out w' hS; go_simp; try with_reducible rfl); simp only [Act.put, List.setIfInBounds_toArray, List.set_cons_succ, List.set_cons_zero]))
        refine takeH_nil ⟨rfl, ?_⟩
        clear HS
        obtain ⟨⟨g0, g1, g2⟩, _⟩ := HK6.out.three
        have HOv : Hid (W6.ownsRow 0 67 3 (.slice pv m cv) m (entCells M)) := by
          show World.ownsRow _ _ _ _ _ _ _
          have h := HA6.out.base0
          rw [HMe.out] at h
          exact h
        have HLb : Hid ((m + 1) * 56 ≤ 140737488355328 ∧ m + 1 ≤ maxLen) := by show _ ∧ _; have := HM.out; have := HN.out; unfold maxLen; omega
        go_wp2_with (at_builtin; refine wpList_push elemEnt W6 #[.string x1, .string x2, .slice pn ns.length cn] _ _ _ HOv.out rfl (by simp [Value.oneCell']) HLb.out rfl _ _ rfl rfl rfl ?_)
        intro v9 w9 r1 r2 r3
        have HA9 : Hid (EnAt 67 w1 w9 (M ++ [(((x1, x2), ns), .slice pn ns.length cn)]) v9) := by
          refine HA6.out.pushed (p := (((x1, x2), ns), .slice pn ns.length cn)) HR6.out (fun he j hj hv => ?_) (by rw [HMe.out]; exact r1) r2 r3
          have h1 := HVn.out he j hj
          have h2 := (HA6.out.row.lt j hv).1
          have h3 := HB1.out.size
          have h4 := HEx.out.2.2 j hv
          omega
        obtain ⟨pv9, cv9, hv⟩ := HA9.out.shape
        subst hv
        clear r1 r2 r3 HOv HLb g0 g1 g2 HK6 HX6 HR6 HA6
        go_wp2_with fail
        go_round
        case rel => exact ⟨i + 1, _, true, by omega, by go_num, rfl, by simp only [List.length_append, List.length_cons, List.length_nil, HMe.out]; have := HM.out; omega, HA9.out, by show _ = _; rw [HE.out, List.map_append]; rfl⟩
        case measure => simp [intOf]; omega
      · cases d with
        | true =>
          have HE : Hid ((l.take (i + 1)).foldl (insStep (x1, x2) n) ([], false) = (M.map Prod.fst ++ [((e1, e2), es)], true)) := by show _ = _; have := HSt2.out; simpa using this
          clear HSt2
          obtain ⟨⟨c0, c1, c2⟩, _⟩ := HAl.out w2 HB2.out
          have hbE : Below w2.heap.size w2 (w2.alloc (.cells #[.string e1, .string e2, .slice q es.length d'] 67)) := (Below.refl _ _).alloc (Nat.le_refl _) _
          have HBE : Hid (Below w.heap.size w (w2.alloc (.cells #[.string e1, .string e2, .slice q es.length d'] 67))) := HB2.out.trans (hbE.mono HB2.out.size)
          have HAE := Lib.hid (HA2.out.below hbE)
          have HOv : Hid ((w2.alloc (.cells #[.string e1, .string e2, .slice q es.length d'] 67)).ownsRow 0 67 3 (.slice pv m cv) m (entCells M)) := by
            show World.ownsRow _ _ _ _ _ _ _
            have h := HAE.out.base0
            rw [HMe.out] at h
            exact h
          have HSz : Hid ((w2.alloc (.cells #[.string e1, .string e2, .slice q es.length d'] 67)).heap.size = w2.heap.size + 1) := by show _ = _; simp
          have HLb : Hid ((m + 1) * 56 ≤ 140737488355328 ∧ m + 1 ≤ maxLen) := by show _ ∧ _; have := HM.out; have := HN.out; unfold maxLen; omega
          clear hbE
          go_wp2_with (at_builtin; refine wpList_push elemEnt (w2.alloc (.cells #[.string e1, .string e2, .slice q es.length d'] 67)) #[.string e1, .string e2, .slice q es.length d'] _ _ _ HOv.out rfl (by simp [Value.oneCell']) HLb.out rfl _ _ rfl rfl ?hxx2 ?_)
          try (case hxx2 => (rw [HSz.out]; rfl))
          intro v9 w9 r1 r2 r3
          rw [← HSz.out] at r3
          clear HSz
          have HA9 : Hid (EnAt 67 w1 w9 (M ++ [(((e1, e2), es), .slice q es.length d')]) v9) := by
            refine HAE.out.pushed (p := (((e1, e2), es), .slice q es.length d')) (HAl.out _ HBE.out).2 (fun he j hj hv => ?_) (by rw [HMe.out]; exact r1) r2 r3
            have h1 := HQ.out he j hj
            have h2 := (HAE.out.row.lt j hv).1
            have h3 := HB1.out.size
            omega
          obtain ⟨pv9, cv9, hv⟩ := HA9.out.shape
          subst hv
          clear r1 r2 r3 HOv HLb HAE HBE c0 c1 c2
          go_wp2_with fail
          go_round
          case rel => exact ⟨i + 1, _, true, by omega, by go_num, rfl, by simp only [List.length_append, List.length_cons, List.length_nil, HMe.out]; have := HM.out; omega, HA9.out, by show _ = _; rw [HE.out, List.map_append]; try rfl; try simp⟩
          case measure => simp [intOf]; omega
        | false =>
          have HE : Hid ((l.take (i + 1)).foldl (insStep (x1, x2) n) ([], false) = ((M.map Prod.fst ++ [((x1, x2), [n])]) ++ [((e1, e2), es)], true)) := by show _ = _; have := HSt2.out; simpa using this
          clear HSt2
          obtain ⟨wa, hwa⟩ : ∃ wa, wa = w2.alloc (.cells #[.int .i64 n] 3) := ⟨_, rfl⟩
          have hbA : Below w2.heap.size w2 wa := by rw [hwa]; exact (Below.refl _ _).alloc (Nat.le_refl _) _
          have hkA : Blk wa w2.heap.size [.int .i64 n] := by rw [hwa]; exact Blk.new _ _ _
          have HRn : Hid (Rd wa 1 (.slice (some ⟨w2.heap.size, 0, none⟩) 1 1) 1 (i64s [n])) := Rd.of_blk (n := 1) hkA rfl (by simp [maxLen])
          have HAa := Lib.hid (HA2.out.below hbA)
          have HOv : Hid ((w2.alloc (.cells #[.int .i64 n] 3)).ownsRow 0 67 3 (.slice pv m cv) m (entCells M)) := by
            show World.ownsRow _ _ _ _ _ _ _
            have h := HAa.out.base0
            rw [HMe.out] at h
            rw [← hwa]
            exact h
          have HRo : Hid (∀ k, (Value.slice pv m cv).ownBlock = some k → k < w2.heap.size) := fun k hk => (HA2.out.row.lt k hk).2
          have HWa : Hid (wa = w2.alloc (.cells #[.int .i64 n] 3)) := hwa
          have HSz : Hid ((w2.alloc (.cells #[.int .i64 n] 3)).heap.size = w2.heap.size + 1) := by show _ = _; simp
          have z0 : w2.cell? ⟨bx, 0, none⟩ = some (.string x1) := by rw [HX2.out.cell]; rfl
          have z1 : w2.cell? ⟨bx, 1, none⟩ = some (.string x2) := by rw [HX2.out.cell]; rfl
          clear hwa hbA hkA
          have HLb : Hid ((m + 1) * 56 ≤ 140737488355328 ∧ m + 1 ≤ maxLen) := by show _ ∧ _; have := HM.out; have := HN.out; unfold maxLen; omega
          go_wp2_with (at_builtin; refine wpList_push elemEnt (w2.alloc (.cells #[.int .i64 n] 3)) #[.string x1, .string x2, .slice (some ⟨w2.heap.size, 0, none⟩) 1 1] _ _ _ HOv.out rfl (by simp [Value.oneCell']) HLb.out rfl _ _ rfl rfl ?hxx3 ?_)
          try (case hxx3 => (rw [HSz.out]; rfl))
          intro v4 w4 r1 r2 r3
          rw [← HSz.out] at r3
          clear HSz
          rw [← HWa.out] at r2 r3
          have HA4 : Hid (EnAt 67 w1 w4 (M ++ [(((x1, x2), [n]), .slice (some ⟨w2.heap.size, 0, none⟩) 1 1)]) v4) := by
            refine HAa.out.pushed (p := (((x1, x2), [n]), .slice (some ⟨w2.heap.size, 0, none⟩) 1 1)) HRn.out (fun _ j hj hv => ?_) (by rw [HMe.out]; exact r1) r2 r3
            have h1 : w2.heap.size = j := by simpa [Value.ownBlock] using hj
            have h2 := HRo.out j hv
            omega
          obtain ⟨pv4, cv4, hv⟩ := HA4.out.shape
          subst hv
          have HB4 : Hid (Below w.heap.size w w4) := HB1.out.trans (HA4.out.bel.mono HB1.out.size)
          have HX4 : Hid (Blk w4 bx [.string x1, .string x2]) := HX1.out.of_same (HA4.out.bel.block _ HX1.out.lt)
          clear r1 r2 r3 HOv HRn HRo HAa HWa z0 z1 HLb
          obtain ⟨M4, hM4⟩ : ∃ M4, M ++ [(((x1, x2), [n]), .slice (some ⟨w2.heap.size, 0, none⟩) 1 1)] = M4 := ⟨_, rfl⟩
          have HMp : Hid (M4.map Prod.fst = M.map Prod.fst ++ [((x1, x2), [n])]) := by show _ = _; rw [← hM4, List.map_append]; rfl
          have HM4l : Hid (M4.length = m + 1) := by show _ = _; rw [← hM4, List.length_append, HMe.out]; rfl
          rw [hM4] at HA4 ⊢
          clear hM4
          obtain ⟨m4, hm4⟩ : ∃ m4, M4.length = m4 := ⟨_, rfl⟩
          have HMf := Lib.hid hm4
          have HM2 : Hid (m4 ≤ 2 * i + 1) := by show _ ≤ _; rw [← hm4, HM4l.out]; have := HM.out; omega
          rw [hm4] at HA4 ⊢
          clear hm4
          rw [← HMp.out] at HE
          obtain ⟨⟨c0, c1, c2⟩, _⟩ := HAl.out w4 HB4.out
          have hbE : Below w4.heap.size w4 (w4.alloc (.cells #[.string e1, .string e2, .slice q es.length d'] 67)) := (Below.refl _ _).alloc (Nat.le_refl _) _
          have HBE : Hid (Below w.heap.size w (w4.alloc (.cells #[.string e1, .string e2, .slice q es.length d'] 67))) := HB4.out.trans (hbE.mono HB4.out.size)
          have HAE := Lib.hid (HA4.out.below hbE)
          have HOv : Hid ((w4.alloc (.cells #[.string e1, .string e2, .slice q es.length d'] 67)).ownsRow 0 67 3 (.slice pv4 m4 cv4) m4 (entCells M4)) := by
            show World.ownsRow _ _ _ _ _ _ _
            have h := HAE.out.base0
            rw [HMf.out] at h
            exact h
          have HSz : Hid ((w4.alloc (.cells #[.string e1, .string e2, .slice q es.length d'] 67)).heap.size = w4.heap.size + 1) := by show _ = _; simp
          have HLb : Hid ((m4 + 1) * 56 ≤ 140737488355328 ∧ m4 + 1 ≤ maxLen) := by show _ ∧ _; have := HM2.out; have := HN.out; unfold maxLen; omega
          clear hbE
          go_wp2_with (at_builtin; refine wpList_push elemEnt (w4.alloc (.cells #[.string e1, .string e2, .slice q es.length d'] 67)) #[.string e1, .string e2, .slice q es.length d'] _ _ _ HOv.out rfl (by simp [Value.oneCell']) HLb.out rfl _ _ rfl rfl ?hxx4 ?_)
          try (case hxx4 => (rw [HSz.out]; rfl))
          intro v9 w9 r1 r2 r3
          rw [← HSz.out] at r3
          clear HSz
          have HA9 : Hid (EnAt 67 w1 w9 (M4 ++ [(((e1, e2), es), .slice q es.length d')]) v9) := by
            refine HAE.out.pushed (p := (((e1, e2), es), .slice q es.length d')) (HAl.out _ HBE.out).2 (fun he j hj hv => ?_) (by rw [HMf.out]; exact r1) r2 r3
            have h1 := HQ.out he j hj
            have h2 := (HAE.out.row.lt j hv).1
            have h3 := HB1.out.size
            omega
          obtain ⟨pv9, cv9, hv⟩ := HA9.out.shape
          subst hv
          clear r1 r2 r3 HOv HLb HAE HBE c0 c1 c2
          go_wp2_with fail
          go_round
          case rel => exact ⟨i + 1, _, true, by omega, by go_num, rfl, by simp only [List.length_append, List.length_cons, List.length_nil, HMf.out]; have := HM2.out; omega, HA9.out, by show _ = _; rw [HE.out, List.map_append]; try rfl; try simp⟩
          case measure => simp [intOf]; omega
    · have hlt' : ¬ (i : Int) < (l.length : Int) := by omega
      have HE : Hid (l.take i = l) := List.take_of_length_le (by omega)
      rw [HE.out] at HF
      have HB2 : Hid (Below w.heap.size w wr) := HB1.out.trans (HA.out.bel.mono HB1.out.size)
      have HX2 : Hid (Blk wr bx [.string x1, .string x2]) := HX1.out.of_same (HA.out.bel.block _ HX1.out.lt)
      cases d with
      | true =>
        go_wp2_with fail
        go_ret
        exact ⟨_, rfl, M, HA.out.lower HB1.out, by rw [insR, HF.out]; rfl⟩
      | false =>
        obtain ⟨wa, hwa⟩ : ∃ wa, wa = wr.alloc (.cells #[.int .i64 n] 3) := ⟨_, rfl⟩
        have hbA : Below wr.heap.size wr wa := by rw [hwa]; exact (Below.refl _ _).alloc (Nat.le_refl _) _
        have hkA : Blk wa wr.heap.size [.int .i64 n] := by rw [hwa]; exact Blk.new _ _ _
        have HRn : Hid (Rd wa 1 (.slice (some ⟨wr.heap.size, 0, none⟩) 1 1) 1 (i64s [n])) := Rd.of_blk (n := 1) hkA rfl (by simp [maxLen])
        have HAa := Lib.hid (HA.out.below hbA)
        have HOv : Hid ((wr.alloc (.cells #[.int .i64 n] 3)).ownsRow 0 67 3 (.slice pv m cv) m (entCells M)) := by
          show World.ownsRow _ _ _ _ _ _ _
          have h := HAa.out.base0
          rw [HMe.out] at h
          rw [← hwa]
          exact h
        have HRo : Hid (∀ k, (Value.slice pv m cv).ownBlock = some k → k < wr.heap.size) := fun k hk => (HA.out.row.lt k hk).2
        have HWa : Hid (wa = wr.alloc (.cells #[.int .i64 n] 3)) := hwa
        have HSz : Hid ((wr.alloc (.cells #[.int .i64 n] 3)).heap.size = wr.heap.size + 1) := by show _ = _; simp
        have z0 : wr.cell? ⟨bx, 0, none⟩ = some (.string x1) := by rw [HX2.out.cell]; rfl
        have z1 : wr.cell? ⟨bx, 1, none⟩ = some (.string x2) := by rw [HX2.out.cell]; rfl
        clear hwa hbA hkA
        have HLb : Hid ((m + 1) * 56 ≤ 140737488355328 ∧ m + 1 ≤ maxLen) := by show _ ∧ _; have := HM.out; have := HN.out; unfold maxLen; omega
        go_wp2_with (at_builtin; refine wpList_push elemEnt (wr.alloc (.cells #[.int .i64 n] 3)) #[.string x1, .string x2, .slice (some ⟨wr.heap.size, 0, none⟩) 1 1] _ _ _ HOv.out rfl (by simp [Value.oneCell']) HLb.out rfl _ _ rfl rfl ?hxx5 ?_)
        try (case hxx5 => (rw [HSz.out]; rfl))
        intro v4 w4 r1 r2 r3
        rw [← HSz.out] at r3
        clear HSz
        rw [← HWa.out] at r2 r3
        have HA4 : Hid (EnAt 67 w1 w4 (M ++ [(((x1, x2), [n]), .slice (some ⟨wr.heap.size, 0, none⟩) 1 1)]) v4) := by
          refine HAa.out.pushed (p := (((x1, x2), [n]), .slice (some ⟨wr.heap.size, 0, none⟩) 1 1)) HRn.out (fun _ j hj hv => ?_) (by rw [HMe.out]; exact r1) r2 r3
          have h1 : wr.heap.size = j := by simpa [Value.ownBlock] using hj
          have h2 := HRo.out j hv
          omega
        obtain ⟨pv4, cv4, hv⟩ := HA4.out.shape
        subst hv
        have HB4 : Hid (Below w.heap.size w w4) := HB1.out.trans (HA4.out.bel.mono HB1.out.size)
        have HX4 : Hid (Blk w4 bx [.string x1, .string x2]) := HX1.out.of_same (HA4.out.bel.block _ HX1.out.lt)
        clear r1 r2 r3 HOv HRn HRo HAa HWa z0 z1 HLb
        go_wp2_with fail
        go_ret
        exact ⟨_, rfl, _, HA4.out.lower HB1.out, by rw [insR, HF.out, List.map_append]; rfl⟩
end Go.Proofs.Ytpjfhakmffcolaa

end

section
/- Layer 15: the reference's Build. -/
set_option linter.unusedVariables false
set_option maxRecDepth 20000
namespace Go.Proofs.Ytpjfhakmffcolaa
open Go Go.RowKit

set_option maxHeartbeats 4000000 in
theorem ref_build15 (mv : Value) (m : List (List Lab)) (w : World) (hm : RdBL w mv m) (hn : m.flatten.length ≤ 100000) (hk : m.length ≤ 100000) :
    Calls Try.prog 14 #[mv] w fun e w' => ∃ v, e = .returned v ∧ ∃ M, EnAt 67 w w' M v ∧ M.map Prod.fst = buildP m := by
  have HM := Lib.hid hm
  have HNn := Lib.hid hn
  have HK := Lib.hid hk
  obtain ⟨pm, cm, hv⟩ := hm.shape
  subst hv
  clear hm hn hk
  go_enter Try.func14, Try.ntmps14
  go_wp2_with fail
  go_loopw [3, 4] (fun vv iv wr => ∃ (i : Nat), i ≤ m.length ∧ iv = .int .i64 (i : Int) ∧ Hid (∃ M, EnAt 67 w wr M vv ∧ M.map Prod.fst = buildTo m i)) (fun _ iv _ => m.length - (intOf iv).toNat)
  case atStart => exact ⟨0, Nat.zero_le _, rfl, [], EnAt.nil w, rfl⟩
  case round =>
    obtain ⟨i, hi, rfl, HO⟩ := hrel
    have him : (i : Int) ≤ 100000 := by have := HK.out; omega
    by_cases hlt : i < m.length
    · have hlt' : (i : Int) < (m.length : Int) := by omega
      obtain ⟨l, hl⟩ : ∃ l, m[i]? = some l := ⟨_, List.getElem?_eq_getElem hlt⟩
      obtain ⟨blk, off, p1, c1, e, hal⟩ := HM.out.always hl
      subst e
      have HAl := Lib.hid hal
      have HU : Hid (buildTo m (i + 1) = addS (i : Int) (buildTo m i) l) := by show _ = _; rw [buildTo_succ, List.getD_eq_getElem?_getD, hl]; rfl
      have HB : Hid (∃ c, EnOk c (buildTo m i) ∧ c + l.length ≤ 100000) := ⟨_, EnOk.built m i (by omega), by have := buildTo_bound hl; have := HNn.out; omega⟩
      have HLl : Hid (l.length ≤ 100000) := by show _ ≤ _; have := buildTo_bound hl; have := HNn.out; omega
      clear hl hal
      generalize buildTo m i = D at *
      go_wp2_with fail
      go_loopw [3, 5] (fun vv kv wr2 => ∃ (k : Nat), k ≤ l.length ∧ kv = .int .i64 (k : Int) ∧ Hid (∃ M, EnAt 67 w wr2 M vv ∧ M.map Prod.fst = addS (i : Int) D (l.take k))) (fun _ kv _ => l.length - (intOf kv).toNat)
      case atStart => exact ⟨0, Nat.zero_le _, rfl, HO.out⟩
      case round =>
        obtain ⟨k, hkl, rfl, HO2⟩ := hrel
        have hkm : (k : Int) ≤ 100000 := by have := HLl.out; omega
        obtain ⟨M, hA, hMf⟩ := HO2.out
        have HA := Lib.hid hA; have HMf := Lib.hid hMf
        clear hA hMf HO2
        obtain ⟨x0, hR⟩ := HAl.out wr HA.out.bel
        by_cases hlk : k < l.length
        · have hlk' : (k : Int) < (l.length : Int) := by omega
          obtain ⟨⟨y1, y2⟩, hx⟩ : ∃ x, l[k]? = some x := ⟨_, List.getElem?_eq_getElem hlk⟩
          obtain ⟨b2, o2, e, hcell⟩ := rdLab_at hR hx
          subst e
          obtain ⟨c0, c1'⟩ := hcell wr (Below.refl _ _)
          simp only at c0 c1'
          have HSt : Hid (addS (i : Int) D (l.take (k + 1)) = insR (y1, y2) (i : Int) (M.map Prod.fst)) := by
            show _ = _
            rw [List.take_add_one, hx, Option.toList_some, addS_snoc, HMf.out]
          have HEk : Hid (EnOk 100000 (M.map Prod.fst)) := by
            show EnOk _ _
            obtain ⟨c, h1, h2⟩ := HB.out
            rw [HMf.out]
            exact (h1.adds (i : Int) (l.take k)).mono (by rw [List.length_take]; omega)
          clear hx hcell hR
          have HC := Lib.hid (ref_insert15 _ (M.map Prod.fst) (y1, y2) (i : Int) wr HA.out.rd HEk.out.len (fun e he => ⟨(HEk.out.ser e he).1, by have := (HEk.out.ser e he).2; omega⟩))
          obtain ⟨pv, cv, hvv⟩ := HA.out.shape
          subst hvv
          go_wp2_with fail
          refine HC.out.mono ?_
          rintro en w1 ⟨v1, rfl, M1, hA1, hM1⟩
          have HA1 := Lib.hid (hA1.lower HA.out.bel)
          have HM1 : Hid (M1.map Prod.fst = addS (i : Int) D (l.take (k + 1))) := hM1.trans HSt.out.symm
          clear hA1 hM1 HC HA HMf HSt HEk c0 c1' x0
          go_wp2_with fail
          go_round
          case rel => exact ⟨k + 1, by omega, by go_num, M1, HA1.out, HM1.out⟩
          case measure => simp [intOf]; omega
        · have hlk' : ¬ (k : Int) < (l.length : Int) := by omega
          have HE : Hid (M.map Prod.fst = buildTo m (i + 1)) := by show _ = _; rw [HU.out, HMf.out, List.take_of_length_le (by omega)]
          clear hR
          go_wp2_with fail
          go_round
          case rel => exact ⟨i + 1, by omega, by go_num, M, HA.out, HE.out⟩
          case measure => simp [intOf]; omega
    · have hlt' : ¬ (i : Int) < (m.length : Int) := by omega
      have HE : Hid (i = m.length) := by show _ = _; omega
      go_wp2_with fail
      go_ret
      obtain ⟨M, hA, hMf⟩ := HO.out
      exact ⟨_, rfl, M, hA, by rw [hMf, HE.out]; rfl⟩
end Go.Proofs.Ytpjfhakmffcolaa

end

section
/- Layer 15: the reference's Same. -/
set_option linter.unusedVariables false
set_option maxRecDepth 20000
namespace Go.Proofs.Ytpjfhakmffcolaa
open Go Go.RowKit

theorem below_drewE (w : World) (n : Nat) : Below w.heap.size w (w.drewN n) := (Mods.drewN (fun _ => False) w n).below (Nat.le_refl _) (fun _ _ e => e)
/-- Entries within the bounds of a machine. -/
structure SmallE (l : List Ent) : Prop where
  len : l.length ≤ 100000
  ser : ∀ e ∈ l, e.2.length ≤ 1000000

set_option maxHeartbeats 8000000 in
theorem ref_same15 (av bv : Value) (a b : List Ent) (w : World) (ha : RdE w av a) (hb : RdE w bv b) (sa : SmallE a) (sb : SmallE b) :
    Calls Try.prog 11 #[av, bv] w fun e w' => e = .returned (.bool (decide (a = b))) ∧ Below w.heap.size w w' := by
  have HA := Lib.hid ha; have HB0 := Lib.hid hb; have SA := Lib.hid sa; have SB := Lib.hid sb
  obtain ⟨pa, ca, hv⟩ := ha.shape
  subst hv
  obtain ⟨pb, cb, hv⟩ := hb.shape
  subst hv
  have hma : (a.length : Int) ≤ 100000 := by have := sa.len; omega
  have hmb : (b.length : Int) ≤ 100000 := by have := sb.len; omega
  clear ha hb sa sb
  by_cases hl : a.length = b.length
  · have HL := Lib.hid hl
    rw [← hl] at HB0 ⊢
    clear hl hmb
    go_enter Try.func11, Try.ntmps11
    go_wp2_with fail
    go_loopw [5] (fun iv wr => ∃ (i : Nat), i ≤ a.length ∧ iv = .int .i64 (i : Int) ∧ Hid (a.take i = b.take i) ∧ Hid (Below w.heap.size w wr)) (fun iv _ => a.length - (intOf iv).toNat)
    case atStart => exact ⟨0, Nat.zero_le _, rfl, rfl, Below.refl _ _⟩
    case round =>
      obtain ⟨i, hi, rfl, HT, HB⟩ := hrel
      have him : (i : Int) ≤ 100000 := by omega
      by_cases hlt : i < a.length
      · have hlt' : (i : Int) < (a.length : Int) := by omega
        obtain ⟨⟨⟨n1, v1⟩, x2⟩, hx⟩ : ∃ x, a[i]? = some x := ⟨_, List.getElem?_eq_getElem hlt⟩
        obtain ⟨⟨⟨n2, v2⟩, y2⟩, hy⟩ : ∃ y, b[i]? = some y := ⟨_, List.getElem?_eq_getElem (by rw [← HL.out]; exact hlt)⟩
        obtain ⟨ba, oa, p1, k1, e, hal⟩ := HA.out.always hx
        subst e
        obtain ⟨bb, ob, p2, k2, e, hbl⟩ := HB0.out.always hy
        subst e
        have HAl := Lib.hid hal; have HBl := Lib.hid hbl
        simp only at HAl HBl
        have HLs : Hid (x2.length ≤ 1000000 ∧ y2.length ≤ 1000000) := ⟨SA.out.ser _ (List.mem_of_getElem? hx), SB.out.ser _ (List.mem_of_getElem? hy)⟩
        have hxm : (x2.length : Int) ≤ 1000000 := by have := HLs.out; omega
        have hym : (y2.length : Int) ≤ 1000000 := by have := HLs.out; omega
        have hne : Hid (¬ (n1 = n2 ∧ v1 = v2 ∧ x2 = y2) → a ≠ b) := fun h e => by
          rw [e, hy] at hx
          cases hx
          exact h ⟨rfl, rfl, rfl⟩
        have HT2 : Hid (n1 = n2 → v1 = v2 → x2 = y2 → a.take (i + 1) = b.take (i + 1)) := fun e1 e2 e3 => by rw [List.take_add_one, List.take_add_one, HT.out, hx, hy, e1, e2, e3]
        obtain ⟨⟨c0, c1, c2⟩, hr1⟩ := HAl.out wr HB.out
        obtain ⟨⟨d0, d1, d2⟩, hr2⟩ := HBl.out wr HB.out
        clear hr1 hr2 hx hy hal hbl
        by_cases e1 : n1 = n2
        · by_cases e2 : v1 = v2
          · subst e1
            subst e2
            have HT4 : Hid (x2 = y2 → a.take (i + 1) = b.take (i + 1)) := fun e => HT2.out rfl rfl e
            clear HT2
            by_cases hll : x2.length = y2.length
            · have HLl := Lib.hid hll
              clear hym
              rw [← hll] at d2 HBl
              clear hll
              go_wp2_with fail
              go_quiet (fail)
              have HB6 : Hid (Below w.heap.size w (wr.drewN nq)) := HB.out.trans ((below_drewE wr nq).mono HB.out.size)
              clear c0 c1 c2 d0 d1 d2 HB
              generalize wr.drewN nq = w6 at *
              go_wp2_with fail
              go_loopw [6] (fun kv wr2 => ∃ (k : Nat), k ≤ x2.length ∧ kv = .int .i64 (k : Int) ∧ Hid (x2.take k = y2.take k) ∧ Hid (Below w.heap.size w wr2)) (fun kv _ => x2.length - (intOf kv).toNat)
              case atStart => exact ⟨0, Nat.zero_le _, rfl, rfl, HB6.out⟩
              case round =>
                obtain ⟨k, hk, rfl, HTk, HBk⟩ := hrel
                have hkm : (k : Int) ≤ 1000000 := by omega
                obtain ⟨⟨c0, c1, c2⟩, rA⟩ := HAl.out wr HBk.out
                obtain ⟨⟨d0, d1, d2⟩, rB⟩ := HBl.out wr HBk.out
                clear c0 c1 d0 d1
                by_cases hkl : k < x2.length
                · have hkl' : (k : Int) < (x2.length : Int) := by omega
                  obtain ⟨n, hn⟩ : ∃ n, x2[k]? = some n := ⟨_, List.getElem?_eq_getElem hkl⟩
                  obtain ⟨m, hm⟩ : ∃ m, y2[k]? = some m := ⟨_, List.getElem?_eq_getElem (by rw [← HLl.out]; exact hkl)⟩
                  obtain ⟨gc, oc, e, hcell⟩ := rdI_at rA hn
                  subst e
                  have rB' : Rd wr 1 (.slice p2 y2.length k2) y2.length (i64s y2) := by have h := rB; rwa [HLl.out] at h
                  obtain ⟨gd, od, e, hcell2⟩ := rdI_at rB' hm
                  subst e
                  have n0 := hcell wr (Below.refl _ _)
                  have m0 := hcell2 wr (Below.refl _ _)
                  have HNm : Hid (n = m → x2.take (k + 1) = y2.take (k + 1)) := fun e => by rw [List.take_add_one, List.take_add_one, HTk.out, hn, hm, e]
                  have HNo : Hid (n ≠ m → a ≠ b) := fun h => hne.out (fun h2 => h (by have h3 := h2.2.2; rw [h3, hm] at hn; cases hn; rfl))
                  clear hn hm hcell hcell2 rA rB rB'
                  by_cases hnm : n = m
                  · have HT3 := Lib.hid (HNm.out hnm)
                    subst hnm
                    clear HNm HNo
                    go_wp2_with fail
                    go_quiet (fail)
                    have HB7 : Hid (Below w.heap.size w (wr.drewN nq)) := HBk.out.trans ((below_drewE wr nq).mono HBk.out.size)
                    clear c2 d2 n0 m0
                    generalize wr.drewN nq = w7 at *
                    go_wp2_with fail
                    go_round
                    case rel => exact ⟨k + 1, by omega, by go_num, HT3.out, HB7.out⟩
                    case measure => simp [intOf]; omega
                  · have HR := Lib.hid (HNo.out hnm)
                    have hnb : (n == m) = false := by rw [beq_eq_false_iff_ne]; exact hnm
                    clear HNm HNo
                    go_wp2_with fail
                    go_quiet (fail)
                    have HB7 : Hid (Below w.heap.size w (wr.drewN nq)) := HBk.out.trans ((below_drewE wr nq).mono HBk.out.size)
                    clear c2 d2 n0 m0
                    generalize wr.drewN nq = w7 at *
                    go_wp2_with fail
                    go_ret
                    exact ⟨by rw [decide_eq_false HR.out]; rfl, HB7.out⟩
                · have hkl' : ¬ (k : Int) < (x2.length : Int) := by omega
                  have HT3 := Lib.hid (HT4.out (by have := HTk.out; rwa [List.take_of_length_le (by omega), List.take_of_length_le (by have := HLl.out; omega)] at this))
                  clear rA rB d2
                  go_wp2_with fail
                  go_round
                  case rel => exact ⟨i + 1, by omega, by go_num, HT3.out, HBk.out⟩
                  case measure => simp [intOf]; omega
            · have HR := Lib.hid (hne.out (fun h => hll (by rw [h.2.2])))
              have hlb : ((x2.length : Int) == (y2.length : Int)) = false := by rw [beq_eq_false_iff_ne]; omega
              clear hll
              go_wp2_with fail
              go_quiet (fail)
              have HB6 : Hid (Below w.heap.size w (wr.drewN nq)) := HB.out.trans ((below_drewE wr nq).mono HB.out.size)
              clear c0 c1 c2 d0 d1 d2
              generalize wr.drewN nq = w6 at *
              go_wp2_with fail
              go_ret
              exact ⟨by rw [decide_eq_false HR.out]; rfl, HB6.out⟩
          · have HR := Lib.hid (hne.out (fun h => e2 h.2.1))
            subst e1
            have hvb : (v1.toList == v2.toList) = false := by rw [eqS]; simpa using e2
            clear e2
            go_wp2_with fail
            go_quiet (fail)
            have HB6 : Hid (Below w.heap.size w (wr.drewN nq)) := HB.out.trans ((below_drewE wr nq).mono HB.out.size)
            clear c0 c1 c2 d0 d1 d2
            generalize wr.drewN nq = w6 at *
            go_wp2_with fail
            go_ret
            exact ⟨by rw [decide_eq_false HR.out]; rfl, HB6.out⟩
        · have HR := Lib.hid (hne.out (fun h => e1 h.1))
          have hnb : (n1.toList == n2.toList) = false := by rw [eqS]; simpa using e1
          clear e1
          go_wp2_with fail
          go_quiet (fail)
          have HB6 : Hid (Below w.heap.size w (wr.drewN nq)) := HB.out.trans ((below_drewE wr nq).mono HB.out.size)
          clear c0 c1 c2 d0 d1 d2
          generalize wr.drewN nq = w6 at *
          go_wp2_with fail
          go_ret
          exact ⟨by rw [decide_eq_false HR.out]; rfl, HB6.out⟩
      · have hlt' : ¬ (i : Int) < (a.length : Int) := by omega
        have HE : Hid (decide (a = b) = true) := decide_eq_true (by have := HT.out; rw [List.take_of_length_le (by omega), List.take_of_length_le (by rw [← HL.out]; omega)] at this; exact this)
        go_wp2_with fail
        go_ret
        exact ⟨by rw [HE.out]; rfl, HB.out⟩
  · have hlb : ((a.length : Int) == (b.length : Int)) = false := by rw [beq_eq_false_iff_ne]; omega
    have HR : Hid (decide (a = b) = false) := decide_eq_false fun e => hl (by rw [e])
    clear hl
    go_enter Try.func11, Try.ntmps11
    go_wp2_with fail
    go_ret
    exact ⟨by rw [HR.out]; rfl, Below.refl _ _⟩
end Go.Proofs.Ytpjfhakmffcolaa

end

section
/- Layer 11: labels as arguments. -/
namespace Go.Proofs.Ytpjfhakmffcolaa
open Go Go.RowKit
def labCell (a : Lab) : List Value := [.string a.1, .string a.2]
def labOk (a : Lab) : Prop := a.1.size ≤ 9223372036854775807 ∧ a.2.size ≤ 9223372036854775807
theorem flat_lab : Flat Try.prog 34 2 labCell labOk :=
  (flat_struct2 Try.underlying34 (by kernel_rfl) rfl rfl (flat_string Try.underlying9 (by kernel_rfl)) (flat_string Try.underlying9 (by kernel_rfl))).map fun a h =>
    ⟨a, ⟨by have := h.1; unfold maxLen at this; omega, by have := h.2; unfold maxLen at this; omega⟩, rfl⟩
end Go.Proofs.Ytpjfhakmffcolaa

end

section
/- Arguments that came in, opened, where an element may lead on into memory (slices of slices, of structs of slices): as XOpen, but what is said of an element speaks of the world. No program in sight. -/
namespace Go.Proofs.Ytpjfhakmffcolaa
open Go Go.RowKit Go.ChangeShapes

/-- Every reading at type e is of the cells 'f a' for an 'a' that is 'ok' in that world. -/
def FlatW (P : Program) (e : TypeId) (sz : Nat) {α : Type} (f : α → List Value) (ok : World → α → Prop) : Prop :=
  P.cellsOf e = sz ∧ ∀ (H : Type) (enc : TypeId × Value → H) (w : World) (base : Nat) (spare : Nat → Bool) (held : Bool) (fuel : Nat) (cs : List Value) (x : DataW H × List MemPlace),
    DataW.trod enc P w base spare held fuel e cs = some x → ∃ a, ok w a ∧ cs = f a

theorem Flat.wide {P : Program} {e : TypeId} {sz : Nat} {α : Type} {f : α → List Value} {ok : α → Prop} (h : Flat P e sz f ok) : FlatW P e sz f (fun _ => ok) :=
  ⟨h.1, fun H enc w base spare held fuel cs x hx => h.2 H enc w base spare held fuel cs x hx⟩
theorem FlatW.map {P : Program} {e : TypeId} {sz : Nat} {α β : Type} {f : α → List Value} {ok : World → α → Prop} (h : FlatW P e sz f ok) {g : β → List Value} {ok' : World → β → Prop} (hm : ∀ w a, ok w a → ∃ b, ok' w b ∧ f a = g b) : FlatW P e sz g ok' :=
  ⟨h.1, fun H enc w base spare held fuel cs x hx => by
    obtain ⟨a, ha, rfl⟩ := h.2 H enc w base spare held fuel cs x hx
    exact hm w a ha⟩
theorem flatW_struct2 {P : Program} {e : TypeId} {f0 f1 : Field} {s0 s1 : Nat} {α β : Type} {g0 : α → List Value} {g1 : β → List Value} {k0 : World → α → Prop} {k1 : World → β → Prop}
    (he : P.underlying e = some (.struct #[f0, f1])) (hc : P.cellsOf e = s0 + s1) (o0 : f0.offset = 0) (o1 : f1.offset = s0) (h0 : FlatW P f0.type s0 g0 k0) (h1 : FlatW P f1.type s1 g1 k1) :
    FlatW P e (s0 + s1) (fun a : α × β => g0 a.1 ++ g1 a.2) (fun w a => k0 w a.1 ∧ k1 w a.2) :=
  ⟨hc, fun H enc w base spare held fuel cs x hx => by
    obtain ⟨y0, y1, n, _, hl, t0, t1⟩ := trod_struct2 he hx
    rw [o0, h0.1] at t0
    rw [o1, h1.1] at t1
    obtain ⟨a, ha, ea⟩ := h0.2 H enc w base spare held n _ _ t0
    obtain ⟨b, hb, eb⟩ := h1.2 H enc w base spare held n _ _ t1
    refine ⟨(a, b), ⟨ha, hb⟩, ?_⟩
    show cs = g0 a ++ g1 b
    rw [← ea, ← eb]
    simp only [List.drop_zero]
    rw [List.take_of_length_le (l := cs.drop s0) (by rw [List.length_drop, hl, hc]; omega), List.take_append_drop]⟩

/-- A slice that is read. -/
theorem open_rowW {P : Program} {t e : TypeId} {sz : Nat} (hsz : 0 < sz) {α : Type} [Inhabited α] {f : α → List Value} {ok : World → α → Prop} (hF : FlatW P e sz f ok) (ht : P.underlying t = some (.slice e))
    {H : Type} {enc : TypeId × Value → H} {w : World} {base : Nat} {spare : Nat → Bool} {held : Bool} {fuel : Nat} {cs : List Value} {x : DataW H × List MemPlace} (h : DataW.trod enc P w base spare held fuel t cs = some x) :
    ∃ (v : Value) (l : List α), cs = [v] ∧ (∀ a ∈ l, ok w a) ∧ Rd w sz v l.length (l.flatMap f) ∧ ((x.1 = .nil ∧ l.length = 0) ∨ ∃ elems rest, x.1 = .slice elems rest ∧ elems.length = l.length) := by
  rcases Deep.open_slice ht h with ⟨rfl, rfl⟩ | ⟨a, len, cap, m, n', D, Pl, rfl, _, hl, hm, hmm, rfl, hel⟩
  · exact ⟨_, [], rfl, by simp, Rd.nil w sz, Or.inl ⟨rfl, rfl⟩⟩
  · have hml : len ≤ m := by rw [hmm]; split <;> omega
    have hch : ∀ i, i < len → ∃ b : α, ok w b ∧ (f b).length = sz ∧ ∀ (j : Nat) (u : Value), (f b)[j]? = some u → w.cell? (a.add (i * sz + j)) = some u := by
      intro i hi
      obtain ⟨cs', h1, h2⟩ := hel i (by omega)
      rw [hF.1] at h1
      obtain ⟨b, hb, rfl⟩ := hF.2 H enc w base spare held n' _ _ h2
      obtain ⟨h3, h4⟩ := cells_get h1
      exact ⟨b, hb, h3, fun j u hu => by rw [← Deep.add_add]; exact h4 j u hu⟩
    obtain ⟨g, hg⟩ := Deep.choose_lt hch
    have hlen : ∀ b ∈ (List.range len).map g, (f b).length = sz := by
      intro b hb
      obtain ⟨i, hi, rfl⟩ := List.mem_map.1 hb
      exact (hg i (List.mem_range.1 hi)).2.1
    refine ⟨.slice (some a) len cap, (List.range len).map g, rfl, ?_, ⟨some a, cap, by simp, ?_, by simpa using hl, hm, (fun e => by cases e), ?_⟩, Or.inr ⟨_, _, rfl, by simp⟩⟩
    · intro b hb
      obtain ⟨i, hi, rfl⟩ := List.mem_map.1 hb
      exact (hg i (List.mem_range.1 hi)).1
    · rw [flatMap_len f _ hlen]
    · intro ad e j u hu
      cases e
      have hj : j = j / sz * sz + j % sz := by rw [Nat.mul_comm]; exact (Nat.div_add_mod j sz).symm
      rw [hj] at hu
      obtain ⟨b, hb, hu'⟩ := flatMap_get f _ hlen (j / sz) (j % sz) (Nat.mod_lt _ hsz) u hu
      have hlt : j / sz < len := by
        rcases Nat.lt_or_ge (j / sz) len with h | h
        · exact h
        · rw [List.getElem?_eq_none (by simpa using h)] at hb; cases hb
      rw [List.getElem?_map, List.getElem?_range hlt] at hb
      simp at hb
      subst hb
      rw [hj]
      exact (hg (j / sz) hlt).2.2 _ u hu'
/-- A slice as an element: its value, and what it holds. -/
theorem flatW_slice {P : Program} {t e : TypeId} {sz : Nat} (hsz : 0 < sz) {α : Type} [Inhabited α] {f : α → List Value} {ok : World → α → Prop} (hF : FlatW P e sz f ok) (ht : P.underlying t = some (.slice e)) (hc : P.cellsOf t = 1) :
    FlatW P t 1 (fun a : Value × List α => [a.1]) (fun w a => (∀ x ∈ a.2, ok w x) ∧ Rd w sz a.1 a.2.length (a.2.flatMap f)) :=
  ⟨hc, fun H enc w base spare held fuel cs x hx => by
    obtain ⟨v, l, rfl, h1, h2, _⟩ := open_rowW hsz hF ht hx
    exact ⟨(v, l), ⟨h1, h2⟩, rfl⟩⟩
/-- A slice that came in. -/
theorem open_flatW {P : Program} {t e : TypeId} {sz : Nat} (hsz : 0 < sz) {α : Type} [Inhabited α] {f : α → List Value} {ok : World → α → Prop} (hF : FlatW P e sz f ok) (ht : P.underlying t = some (.slice e))
    {H : Type} {enc : TypeId × Value → H} {w : World} {base : Nat} {spare : Nat → Bool} {held : Bool} {v : Value} {d : DataW H} {ps : List MemPlace} {n c : Nat} {p : Option Addr} (hv : v = .slice p n c)
    (h : DataW.Trod enc P w base spare held t v d ps) :
    ∃ l : List α, (∀ a ∈ l, ok w a) ∧ l.length = n ∧ Rd w sz v l.length (l.flatMap f) ∧ ((d = .nil ∧ l.length = 0) ∨ ∃ elems rest, d = .slice elems rest ∧ elems.length = l.length) := by
  subst hv
  obtain ⟨fuel, h⟩ := h
  obtain ⟨v, l, hcs, h1, h2, h3⟩ := open_rowW hsz hF ht h
  simp [Value.cells] at hcs
  subst hcs
  have h2' := h2
  obtain ⟨_, _, e, _⟩ := h2'
  simp only [Value.slice.injEq] at e
  exact ⟨l, h1, e.2.1.symm, h2, h3⟩
end Go.Proofs.Ytpjfhakmffcolaa

end

section
/- Layer 15: lists of label sets as arguments. -/
namespace Go.Proofs.Ytpjfhakmffcolaa
open Go Go.RowKit
abbrev LabsA := Value × List Lab
def labsCell (a : LabsA) : List Value := [a.1]
def labsOk (w : World) (a : LabsA) : Prop := (∀ x ∈ a.2, labOk x) ∧ Rd w 2 a.1 a.2.length (a.2.flatMap labCell)
theorem flat_labs : FlatW Try.prog 36 1 labsCell labsOk :=
  flatW_slice (by decide) flat_lab.wide Try.underlying36 (by kernel_rfl)
theorem labsCell_map (l : List LabsA) : l.flatMap labsCell = l.map Prod.fst := by
  induction l with
  | nil => rfl
  | cons a l ih => rw [List.flatMap_cons, List.map_cons, ih]; rfl
theorem labss_in {w : World} {v : Value} {l : List LabsA} (ok : ∀ a ∈ l, labsOk w a) (hr : Rd w 1 v l.length (l.flatMap labsCell)) : ∃ m : List (List Lab), (∀ s ∈ m, LabSized s) ∧ RdBL w v m := by
  rw [labsCell_map] at hr
  refine ⟨l.map Prod.snd, fun s hs => ?_, ⟨l.map Prod.fst, by rw [List.length_map]; exact hr, by simp, fun i h s hi hj => ?_⟩⟩
  · obtain ⟨a, ha, rfl⟩ := List.mem_map.1 hs
    exact (ok a ha).1
  · rw [List.getElem?_map] at hi hj
    cases e : l[i]? with
    | none => rw [e] at hi; cases hi
    | some a =>
      rw [e] at hi hj; cases hi; cases hj
      exact (ok a (List.mem_of_getElem? e)).2
end Go.Proofs.Ytpjfhakmffcolaa

end

section
/- Layer 11: the two labels of the examples. No program in sight. -/
set_option linter.unusedVariables false
namespace Go.Proofs.Ytpjfhakmffcolaa
open Go Go.RowKit

def lA : ByteArray := ⟨#[97]⟩

def lB : ByteArray := ⟨#[98]⟩

def l1 : ByteArray := ⟨#[49]⟩

def l2 : ByteArray := ⟨#[50]⟩

theorem lAB : ltS lA lB = true := by simp [ltS, lA, lB, ByteArray.toList_eq, Op.bytesLess]

theorem l12 : ltS l1 l2 = true := by simp [ltS, l1, l2, ByteArray.toList_eq, Op.bytesLess]

theorem lBA : ltS lB lA = false := ltS_ok.asy lAB

theorem l21 : ltS l2 l1 = false := ltS_ok.asy l12

theorem asc_ab11 : AscB ltN [(lA, l1), (lB, l2)] := by simp [AscB, ltN, lAB]

theorem one_ab11 : ∀ x ∈ ([(lA, l1), (lB, l2)] : List Lab), oneL x = 0 := by
  intro x hx
  simp only [List.mem_cons, List.not_mem_nil, or_false] at hx
  rcases hx with rfl | rfl <;> decide

theorem norm_ba11 : normL [(lB, l2), (lA, l1)] = (0, [(lA, l1), (lB, l2)]) := by
  have h1 := norm_of_asc asc_ab11 one_ab11
  have h2 := norm_perm (l := [(lB, l2), (lA, l1)]) (m := [(lA, l1), (lB, l2)]) (List.Perm.swap _ _ _)
  rw [h1] at h2
  exact Prod.ext (h2.1.2 rfl) h2.2

theorem check_ab11 : checkL [(lA, l1), (lB, l2)] = 0 := check_asc _ none asc_ab11 one_ab11 (fun _ e => by cases e)

theorem cmp_a11 : cmpLabs [(lA, l1)] [(lA, l1), (lB, l2)] = -1 := by
  rw [cmpLabs, cmpL, if_pos (cmpLab_ok.refl _)]; rfl

theorem cmp_b11 : cmpLabs [(lA, l2)] [(lA, l1), (lB, l2)] = 1 := by
  have h : cmpLab (lA, l2) (lA, l1) = 1 := by
    rw [cmpLab, cmpP, if_pos (ordS_ok.refl _)]
    show ordB ltS l2 l1 = 1
    rw [ordB, if_neg (by rw [l21]; simp), if_pos l12]
  rw [cmpLabs, cmpL, if_neg (by rw [h]; decide), h]

theorem get_b11 : getL [(lA, l1), (lB, l2)] lB = some l2 := by
  have h : lA ≠ lB := ltS_ok.ne lAB
  simp [getL, h]
end Go.Proofs.Ytpjfhakmffcolaa

end

section
/- A table made of strings: its order, its length, its strings. -/
set_option linter.unusedVariables false
set_option maxRecDepth 20000
namespace Go.Proofs.Ytpjfhakmffcolaa
open Go Go.RowKit

theorem tabS_asc (l : List ByteArray) : AscB ltS (tabS l) := tabB_asc ltS_ok l

theorem tabS_mem (l : List ByteArray) (s : ByteArray) : s ∈ tabS l ↔ s ∈ l := tabB_mem ltS_ok l s
theorem tabS_fits {l : List ByteArray} (h : ∀ s ∈ l, s.size ≤ 65535) : Fits (tabS l) := fun s hs => h s ((tabS_mem l s).1 hs)

theorem tabS_len (l : List ByteArray) : (tabS l).length ≤ l.length := tabB_len l
end Go.Proofs.Ytpjfhakmffcolaa

end

section
/- Layer 15: an index and the table of its own strings. No program in sight. -/
set_option linter.unusedVariables false
namespace Go.Proofs.Ytpjfhakmffcolaa
open Go Go.RowKit

theorem one_fits {x : Lab} (h : oneL x = 0) : x.1.size ≤ 65535 ∧ x.2.size ≤ 65535 := by
  rw [oneL] at h
  split at h
  · cases h
  · split at h
    · cases h
    · omega
theorem strings_fit {m : List (List Lab)} (h : SmallP m) : ∀ s ∈ m.flatMap stringsL, s.size ≤ 65535 := by
  intro s hs
  obtain ⟨y, hy, hs⟩ := List.mem_flatMap.1 hs
  obtain ⟨x, hx, hs⟩ := List.mem_flatMap.1 hs
  have h1 := one_fits (h.one y hy x hx)
  simp only [List.mem_cons, List.not_mem_nil, or_false] at hs
  rcases hs with rfl | rfl
  · exact h1.1
  · exact h1.2
theorem labs_in_table (m : List (List Lab)) : ∀ e ∈ buildP m, labIn (tabS (m.flatMap stringsL)) e.1 := by
  intro e he
  rw [build_idx] at he
  obtain ⟨y, hy, hx⟩ := List.mem_flatten.1 (idx_mem he).1
  have h1 : e.1.1 ∈ stringsL y := List.mem_flatMap.2 ⟨e.1, hx, by simp⟩
  have h2 : e.1.2 ∈ stringsL y := List.mem_flatMap.2 ⟨e.1, hx, by simp⟩
  exact ⟨(tabS_mem _ _).2 (List.mem_flatMap.2 ⟨y, hy, h1⟩), (tabS_mem _ _).2 (List.mem_flatMap.2 ⟨y, hy, h2⟩)⟩
theorem SmallI.okE {n : Nat} {l : List Ent} (h : SmallI n l) {t : List ByteArray} (ht : ∀ e ∈ l, labIn t e.1) : okEnts t (n : Int) l :=
  okEnts_iff.2 ⟨h.idx, ht, by have := h.ok.len; omega, fun e he => by have := (h.ok.ser e he).2; omega⟩
end Go.Proofs.Ytpjfhakmffcolaa

end
