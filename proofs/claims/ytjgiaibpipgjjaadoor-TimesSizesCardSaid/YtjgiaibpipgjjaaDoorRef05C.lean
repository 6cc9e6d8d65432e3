/- Layer 5: the reference's Get. -/
import Derived.Test.YtjgiaibpipgjjaaDoorRef05B
import Derived.Test.YtjgiaibpipgjjaaDoorTimesB
set_option linter.unusedVariables false
namespace Go.Proofs.YtjgiaibpipgjjaaDoor
open Go Go.RowKit




/-- Where the reference's Get stands: what it has read, and its reader. -/
structure GSt (q : Nat) (w6 : World) (v : Value) (wr : World) (lv : Value) (acc : List Int) (v' : Value) (bits : List Bool) : Prop where
  row : wr.ownsRow w6.heap.size 2 1 lv acc.length (i64s acc)
  rd : RefIn wr q v' bits
  own : bits ≠ [] → v'.ownBlock = v.ownBlock
  mods : Mods (fun k => k = q) w6 wr
  lt : q < w6.heap.size
  vlt : bits ≠ [] → ∀ k, v.ownBlock = some k → k < w6.heap.size
  len : bits.length ≤ 70368744177664
theorem GSt.read {q : Nat} {w6 wr w' : World} {v lv v' v'' : Value} {acc : List Int} {bits : List Bool} {n : Nat} (h : GSt q w6 v wr lv acc v' bits) (k : RefBitsPost q v' (bits.drop n) wr v'' w') : GSt q w6 v w' lv acc v'' (bits.drop n) := by
  have hb : bits.drop n ≠ [] → bits ≠ [] := fun h e => h (by rw [e]; simp)
  refine ⟨k.mods.owns h.row (fun j hj e => by have := (h.row.lt j hj).1; have := h.lt; omega), k.rd, fun hne => (k.own hne).trans (h.own (hb hne)), h.mods.trans k.mods (fun _ _ e => e), h.lt, fun hne => h.vlt (hb hne), by rw [List.length_drop]; have := h.len; omega⟩
theorem GSt.pushed {q : Nat} {w6 wr w' : World} {v lv lv' v' : Value} {acc acc' : List Int} {bits : List Bool} (h : GSt q w6 v wr lv acc v' bits) (hr : w'.ownsRow 0 2 1 lv' acc'.length (i64s acc')) (hm : Mods (fun k => lv.ownBlock = some k) wr w') (hf : Fresh wr.heap.size lv lv') : GSt q w6 v w' lv' acc' v' bits := by
  have hq : ¬ lv.ownBlock = some q := fun e => by have := (h.row.lt q e).1; have := h.lt; omega
  refine ⟨owns_rebase hr (fun k hk => ?_), h.rd.mods hm hq (fun hne k hk e => ?_), h.own, h.mods.trans (hm.mono (T := fun k => k = q ∨ w6.heap.size ≤ k) (fun j _ e => Or.inr (h.row.lt j e).1)) (fun j hj e => ?_), h.lt, h.vlt, h.len⟩
  · rcases hf k hk with e | e
    · exact (h.row.lt k e).1
    · have := h.mods.size; omega
  · rw [h.own hne] at hk
    have := h.vlt hne k hk; have := (h.row.lt k e).1; omega
  · rcases e with e | e
    · exact e
    · omega
theorem GSt.drewN {q : Nat} {w6 wr : World} {v lv v' : Value} {acc : List Int} {bits : List Bool} (h : GSt q w6 v wr lv acc v' bits) (n : Nat) : GSt q w6 v (wr.drewN n) lv acc v' bits :=
  ⟨(Mods.drewN (fun _ => False) wr n).owns h.row (fun _ _ e => e), h.rd.drewN n, h.own, h.mods.trans (Mods.drewN _ _ _) (fun _ _ e => e), h.lt, h.vlt, h.len⟩

/-- What the reference's Get leaves. -/
def GetPost (q : Nat) (w : World) (v : Value) (o : Res (List Int)) (e : Ending) (w' : World) : Prop :=
  (∃ r, e = .returned (.tuple #[r, .int .i64 (o.e : Int)]) ∧ Rd w' 1 r o.x.length (i64s o.x) ∧ (∀ k, r.ownBlock = some k → w.heap.size ≤ k)) ∧ (∃ v', RefIn w' q v' o.r ∧ (o.r ≠ [] → v'.ownBlock = v.ownBlock)) ∧ Mods (fun k => k = q) w w'
theorem GSt.fails {q : Nat} {w w6 wr : World} {v lv v' : Value} {acc : List Int} {bits : List Bool} (h : GSt q w6 v wr lv acc v' bits) (hB : Below w.heap.size w w6) {o : Res (List Int)} {e : Nat} (ho : o = ⟨e, [], bits⟩) :
    GetPost q w v o (.returned (.tuple #[.slice none 0 0, .int .i64 (e : Int)])) wr := by
  subst ho
  exact ⟨⟨_, rfl, Rd.nil _ _, fun k e => by cases e⟩, ⟨v', h.rd, h.own⟩, (Mods.of_below hB _).trans h.mods (fun _ _ e => e)⟩

set_option maxRecDepth 10000 in
set_option maxHeartbeats 8000000 in
theorem ref_get05 (q : Nat) (v : Value) (n : Nat) (bs : List Bool) (w : World) (h : RefIn w q v bs) (hb : bs.length ≤ 70368744177664) (hn : n ≤ 1000000) :
    Calls Tryd.prog 23 #[.pointer (some ⟨q, 0, none⟩), .int .i64 (n : Int)] w (GetPost q w v (decT n bs)) := by
  have H := Lib.hid h
  have HNn := Lib.hid hn
  clear h hn
  go_enter Tryd.func23, Tryd.ntmps23
  go_wp2_with (refine wpList_allocA Tryd.arrI5 rfl rfl ?_)
  intro w1 hb1 hB1 hs1
  have HK1 := Lib.hid hb1; have HB1 := Lib.hid hB1; have HS1 := Lib.hid hs1
  clear hb1 hB1 hs1
  go_wp2_with (refine wpList_storeA Tryd.arrI5 rfl _ _ rfl w.heap.size rfl widthCells _ rfl HK1.out (by simp) rfl (by decide) ?_)
  intro w6 hb6 hM6 hs6
  have HT := Lib.hid hb6
  have HB6 : Hid (Below w.heap.size w w6) := HB1.out.trans (hM6.below HB1.out.size (fun k hk e => by omega))
  have HS6 : Hid (w6.heap.size = w.heap.size + 1) := by show _ = _; rw [hs6, HS1.out]
  have HQ : Hid (q < w.heap.size) := H.out.blk.lt
  have HG0 : Hid (GSt q w6 v w6 (.slice none 0 0) [] v bs) := ⟨World.ownsRow_nil _ _ _ _, H.out.below HB6.out, fun _ => rfl, Mods.refl _ _, by have := HQ.out; have := HS6.out; omega, fun hne k hk => by
    have := H.out.rd.lt (fun e => hne (by simpa [bls] using e)) k hk
    have := HS6.out; omega, hb⟩
  clear hb6 hM6 hs6 HK1 HB1 HS1
  generalize hn1 : w.heap.size = n1 at *
  have HN1 := Lib.hid hn1
  clear hn1
  go_wp2_with fail
  go_loopw [7, 8, 9] (fun lv dv iv wr => ∃ (j : Nat) (acc : List Int) (d : Int) (bits : List Bool) (v' : Value), j ≤ n ∧ iv = .int .i64 (j : Int) ∧ dv = .int .i64 d ∧ acc.length = j ∧ Hid (GetAt n bs j acc d bits) ∧ Hid (GSt q w6 v wr lv acc v' bits)) (fun _ _ i _ => n - (intOf i).toNat)
  case atStart => exact ⟨0, [], 0, bs, v, by omega, rfl, rfl, rfl, Or.inl ⟨rfl, rfl, rfl, rfl⟩, HG0.out⟩
  case round =>
    obtain ⟨j, acc, d, bits, v', hjn, rfl, rfl, hal, HA, HG⟩ := hrel
    have HLen := Lib.hid hal
    obtain ⟨pa, ca, hva⟩ := (Rd.of_owns HG.out.row).shape
    rw [hal] at hva
    subst hva
    have hjb0 : (j : Int) ≤ 1000000 := by have := HNn.out; omega
    clear hal
    by_cases hj : j < n
    · have hj' : (j : Int) < (n : Int) := by omega
      by_cases hj0 : j = 0
      · subst hj0
        obtain ⟨rfl, rfl, rfl⟩ : acc = [] ∧ d = 0 ∧ bits = bs := by
          rcases HA.out with ⟨_, h1, h2, h3⟩ | ⟨k, _, h, _⟩
          · exact ⟨h1, h2, h3⟩
          · omega
        have hn0 : (0 : Int) < (n : Int) := by omega
        by_cases h64 : bits.length < 64
        · have HE := Lib.hid (calls_flip (ref_rbits_eof q v' 64 bits wr HG.out.rd (by decide) h64))
          have HR := Lib.hid (HG.out.fails (w := w) (by rw [HN1.out]; exact HB6.out) (getAt_first_eof hj h64))
          go_wp2_with fail
          refine HE.out.mono ?_
          rintro en w7 ⟨rfl, rfl⟩
          go_wp2_with fail
          go_ret2
          exact HR.out
        · have HE := Lib.hid (ref_rbits q v' 64 bits wr HG.out.rd (by decide) (by omega) hb)
          have HNx := Lib.hid (getAt_first hj h64)
          have hlt := numOf_lt (bits.take 64)
          rw [List.length_take, Nat.min_eq_left (by omega)] at hlt
          go_wp2_with fail
          refine HE.out.mono ?_
          rintro en w7 ⟨rfl, v7, hP⟩
          have HG7 := Lib.hid (HG.out.read hP)
          have hw : IntKind.i64.wrap ((numOf (bits.take 64) : Nat) : Int) = toI (numOf (bits.take 64)) := wrap_toI (by simpa using hlt)
          generalize toI (numOf (bits.take 64)) = t at *
          generalize numOf (bits.take 64) = u at *
          clear hP hlt HE h64 hb
          have HO7 := Lib.hid (owns_rebase HG7.out.row (base' := 0) (fun _ _ => Nat.zero_le _))
          go_wp2_with (at_builtin; refine wpList_push Tryd.elemI64 w7 #[.int .i64 t] _ _ _ HO7.out rfl (one_cell _ rfl) (by decide) rfl _ _ rfl rfl rfl ?_)
          intro v8 w8 hown hmods hfr
          have HG8 : Hid (GSt q w6 v w8 v8 [t] v7 (bits.drop 64)) := HG7.out.pushed hown hmods hfr
          obtain ⟨p8, c8, hv8⟩ : ∃ p c, v8 = .slice p 1 c := (Rd.of_owns HG8.out.row).shape
          subst hv8
          clear hown hmods hfr HO7 HG7
          clear hw hjb0 hj' hn0
          go_wp2_with fail
          go_round
          case rel => exact ⟨1, [t], 0, _, v7, by omega, rfl, rfl, rfl, HNx.out, HG8.out⟩
          case measure => simp [intOf]; omega
      · rcases HA.out with ⟨h0, _⟩ | ⟨k, last, hjk, hal2, hlast, hdec⟩
        · exact absurd h0 hj0
        have HDec := Lib.hid hdec
        have HLast : Hid ((i64s acc)[k]? = some (.int .i64 last)) := by show _ = _; rw [i64s, List.getElem?_map, hlast]; rfl
        have hj1 : (j : Int) - 1 = (k : Int) := by omega
        have hjb : ((j : Int) == 0) = false := by rw [beq_eq_false_iff_ne]; omega
        have hkj : (k : Int) < (j : Int) := by omega
        clear hlast hdec hjk hal2
        go_wp2_with fail
        go_loopw [12] (fun kv wr2 => ∃ (K : Nat) (cur : List Bool) (vc : Value), K ≤ 4 ∧ kv = .int .i64 (K : Int) ∧ Hid (OnesAt bits K cur) ∧ Hid (GSt q w6 v wr2 (.slice pa j ca) acc vc cur)) (fun kv _ => 4 - (intOf kv).toNat)
        case atStart => exact ⟨0, bits, v', by omega, rfl, onesAt_zero _, HG.out⟩
        case round =>
          obtain ⟨K, cur, vc, hK4, rfl, HOA, HGc⟩ := hrel
          by_cases hk4 : K < 4
          · have hk4' : (K : Int) < 4 := by omega
            cases cur with
            | nil =>
              have HE := Lib.hid (calls_flip (ref_rbits_eof q vc 1 [] wr HGc.out.rd (by decide) (by decide)))
              have HR := Lib.hid (HGc.out.fails (w := w) (by rw [HN1.out]; exact HB6.out) (getAt_bad hj HDec.out (by decide) (onesAt_eof hk4 HOA.out)))
              go_wp2_with fail
              refine HE.out.mono ?_
              rintro en w7 ⟨rfl, rfl⟩
              go_wp2_with fail
              go_ret2
              exact HR.out
            | cons bit cur =>
              have HE := Lib.hid (ref_rbits q vc 1 (bit :: cur) wr HGc.out.rd (by decide) (by simp) HGc.out.len)
              cases bit with
              | true =>
                go_wp2_with fail
                refine HE.out.mono ?_
                rintro en w7 ⟨he, v7, hP⟩
                have he' : en = .returned (.tuple #[.int .u64 1, .int .i64 0]) := he
                subst he'
                have HG7 : Hid (GSt q w6 v w7 (.slice pa j ca) acc v7 cur) := HGc.out.read (n := 1) hP
                clear hP he HE
                go_wp2_with fail
                go_round
                case rel => exact ⟨K + 1, cur, v7, by omega, by go_num, onesAt_next hk4 HOA.out, HG7.out⟩
                case measure => simp [intOf]; omega
              | false =>
                have HOnes := Lib.hid (onesAt_stop hk4 HOA.out)
                go_wp2_with fail
                refine HE.out.mono ?_
                rintro en wc ⟨he, vd, hP⟩
                have he' : en = .returned (.tuple #[.int .u64 0, .int .i64 0]) := he
                subst he'
                have HGd : Hid (GSt q w6 v wc (.slice pa j ca) acc vd cur) := HGc.out.read (n := 1) hP
                clear hP he HE
                by_cases hK0 : K = 0
                · subst hK0
                  have HNx := Lib.hid (getAt_next hj HLen.out HDec.out (decX_zero HOnes.out))
                  rw [Int.add_zero] at HNx
                  have HF0 : Hid (Calls Tryd.prog 32 #[.int .i64 0] wc fun e w' => e = .returned (.int .i64 0) ∧ w' = wc) := ref_form 0 wc
                  go_wp2_with fail
                  refine HF0.out.mono ?_
                  rintro en w7 ⟨rfl, rfl⟩
                  have HRow := Lib.hid HGd.out.row
                  obtain ⟨bx, ox, cx, e, hm1, hm2, hcx⟩ := (Rd.of_owns HGd.out.row).at (fun e => by have := congrArg List.length e; rw [i64s_length, HLen.out] at this; simp at this; omega)
                  simp only [Value.slice.injEq] at e
                  obtain ⟨rfl, hjl, rfl⟩ := e
                  have hcl := hcx k _ HLast.out
                  have HLb : Hid ((acc.length + 1) * 8 ≤ 140737488355328 ∧ acc.length + 1 ≤ maxLen) := by show _ ∧ _; have := HLen.out; have := HNn.out; unfold maxLen; omega
                  clear hcx hm1 hm2 hjl
                  go_wp2_with (at_builtin; refine wpList_push Tryd.elemI64 w7 #[.int .i64 (wrap64 (last + wrap64 (d)))] _ _ _ (owns_rebase HRow.out (fun _ _ => Nat.zero_le _)) rfl (one_cell _ rfl) HLb.out rfl _ _ rfl rfl rfl ?_)
                  intro v8 w8 hown hmods hfr
                  have HG8 : Hid (GSt q w6 v w8 v8 (acc ++ [wrap64 (last + wrap64 (d))]) _ _) := HGd.out.pushed (by rw [List.length_append, i64s_append]; exact hown) hmods hfr
                  obtain ⟨p8, c8, hv8⟩ : ∃ p c, v8 = .slice p (j + 1) c := by have := (Rd.of_owns HG8.out.row).shape; rwa [List.length_append, HLen.out] at this
                  subst hv8
                  clear hown hmods hfr hcl
                  go_wp2_with fail
                  go_round
                  case rel => exact ⟨j + 1, _, _, _, _, by omega, by go_num, rfl, by simp [HLen.out], HNx.out, HG8.out⟩
                  case measure => simp [intOf]; omega
                · have hK0' : (0 : Int) < (K : Int) := by omega
                  have hK5 : (K : Int) < 5 := by omega
                  have hKb : ((K : Int) == 0) = false := by rw [beq_eq_false_iff_ne]; omega
                  have HW : Hid (1 ≤ widthT K ∧ widthT K ≤ 64) := ⟨by obtain ⟨m, rfl⟩ : ∃ m, K = m + 1 := ⟨K - 1, by omega⟩; unfold widthT; split <;> omega, widthT_le K⟩
                  have hcw : wc.cell? ⟨n1, K, none⟩ = some (.int .i64 (widthT K : Int)) := ((HGd.out.mods.blk HT.out (fun e => by have := HQ.out; omega)).cell _).trans (widthCells_get hK4)
                  by_cases hsh : cur.length < widthT K
                  · have HE := Lib.hid (calls_flip (ref_rbits_eof q vd (widthT K) cur wc HGd.out.rd HW.out.2 hsh))
                    have HR := Lib.hid (HGd.out.fails (w := w) (by rw [HN1.out]; exact HB6.out) (getAt_bad hj HDec.out (by decide) (decX_eof HOnes.out hsh)))
                    clear hsh
                    go_wp2_with fail
                    refine HE.out.mono ?_
                    rintro en w7 ⟨rfl, rfl⟩
                    go_wp2_with fail
                    go_ret2
                    exact HR.out
                  · have HE := Lib.hid (ref_rbits q vd (widthT K) cur wc HGd.out.rd HW.out.2 (by omega) HGd.out.len)
                    have HDx := Lib.hid (fun h => decX_wrong HOnes.out hsh h)
                    have HDr := Lib.hid (fun h => decX_right HOnes.out hsh h)
                    have hu := numOf_lt (cur.take (widthT K))
                    rw [List.length_take, Nat.min_eq_left (by omega)] at hu
                    have HU := Lib.hid hu
                    clear hsh hu
                    go_wp2_with fail
                    refine HE.out.mono ?_
                    rintro en w7 ⟨rfl, v7, hP⟩
                    have HG7 := Lib.hid (HGd.out.read hP)
                    have hcw7 : w7.cell? ⟨n1, K, none⟩ = some (.int .i64 (widthT K : Int)) := ((HG7.out.mods.blk HT.out (fun e => by have := HQ.out; omega)).cell _).trans (widthCells_get hK4)
                    have HSg := Lib.hid (ref_signed (numOf (cur.take (widthT K))) (widthT K) HW.out HU.out w7)
                    generalize numOf (cur.take (widthT K)) = u at *
                    clear hP HE hcw
                    go_wp2_with fail
                    refine HSg.out.mono ?_
                    rintro en w8 ⟨rfl, rfl⟩
                    have HFm := Lib.hid (ref_form (signT u (widthT K)) w8)
                    generalize signT u (widthT K) = x at *
                    by_cases hfk : formT x = K
                    · have HNx := Lib.hid (getAt_next hj HLen.out HDec.out (HDr.out hfk))
                      have hfb : ((formT x : Int) == (K : Int)) = true := by rw [hfk]; simp
                      rw [hfk] at HFm
                      clear hfk hfb hcw7
                      go_wp2_with fail
                      refine HFm.out.mono ?_
                      rintro en w9 ⟨rfl, rfl⟩
                      have HRow := Lib.hid HG7.out.row
                      obtain ⟨bx, ox, cx, e, hm1, hm2, hcx⟩ := (Rd.of_owns HG7.out.row).at (fun e => by have := congrArg List.length e; rw [i64s_length, HLen.out] at this; simp at this; omega)
                      simp only [Value.slice.injEq] at e
                      obtain ⟨rfl, hjl, rfl⟩ := e
                      have hcl := hcx k _ HLast.out
                      have HLb : Hid ((acc.length + 1) * 8 ≤ 140737488355328 ∧ acc.length + 1 ≤ maxLen) := by show _ ∧ _; have := HLen.out; have := HNn.out; unfold maxLen; omega
                      clear hcx hm1 hm2 hjl
                      go_wp2_with (at_builtin; refine wpList_push Tryd.elemI64 w9 #[.int .i64 (wrap64 (last + wrap64 (d + x)))] _ _ _ (owns_rebase HRow.out (fun _ _ => Nat.zero_le _)) rfl (one_cell _ rfl) HLb.out rfl _ _ rfl rfl rfl ?_)
                      intro v8 w8 hown hmods hfr
                      have HG8 : Hid (GSt q w6 v w8 v8 (acc ++ [wrap64 (last + wrap64 (d + x))]) _ _) := HG7.out.pushed (by rw [List.length_append, i64s_append]; exact hown) hmods hfr
                      obtain ⟨p8, c8, hv8⟩ : ∃ p c, v8 = .slice p (j + 1) c := by have := (Rd.of_owns HG8.out.row).shape; rwa [List.length_append, HLen.out] at this
                      subst hv8
                      clear hown hmods hfr hcl
                      go_wp2_with fail
                      go_round
                      case rel => exact ⟨j + 1, _, _, _, _, by omega, by go_num, rfl, by simp [HLen.out], HNx.out, HG8.out⟩
                      case measure => simp [intOf]; omega
                    · have HR := Lib.hid (HG7.out.fails (w := w) (by rw [HN1.out]; exact HB6.out) (getAt_bad hj HDec.out (by decide) (HDx.out hfk)))
                      have hfb : ((formT x : Int) == (K : Int)) = false := by rw [beq_eq_false_iff_ne]; omega
                      have hfn : ¬ (formT x : Int) = (K : Int) := by omega
                      clear hcw7
                      go_wp2_with fail
                      refine HFm.out.mono ?_
                      rintro en w9 ⟨rfl, rfl⟩
                      go_wp2_with fail
                      go_ret2
                      exact HR.out
          · have hk4' : ¬ (K : Int) < 4 := by omega
            have HOnes : Hid (ones 4 bits = ⟨0, K, cur⟩) := by
              show _ = _
              have hKe : K = 4 := by omega
              have h4 := HOA.out
              rw [hKe] at h4 ⊢
              exact onesAt_four h4
            by_cases hK0 : K = 0
            · omega
            · have hK0' : (0 : Int) < (K : Int) := by omega
              have hK5 : (K : Int) < 5 := by omega
              have hKb : ((K : Int) == 0) = false := by rw [beq_eq_false_iff_ne]; omega
              have HW : Hid (1 ≤ widthT K ∧ widthT K ≤ 64) := ⟨by obtain ⟨m, rfl⟩ : ∃ m, K = m + 1 := ⟨K - 1, by omega⟩; unfold widthT; split <;> omega, widthT_le K⟩
              have hcw : wr.cell? ⟨n1, K, none⟩ = some (.int .i64 (widthT K : Int)) := ((HGc.out.mods.blk HT.out (fun e => by have := HQ.out; omega)).cell _).trans (widthCells_get hK4)
              by_cases hsh : cur.length < widthT K
              · have HE := Lib.hid (calls_flip (ref_rbits_eof q vc (widthT K) cur wr HGc.out.rd HW.out.2 hsh))
                have HR := Lib.hid (HGc.out.fails (w := w) (by rw [HN1.out]; exact HB6.out) (getAt_bad hj HDec.out (by decide) (decX_eof HOnes.out hsh)))
                clear hsh
                go_wp2_with fail
                refine HE.out.mono ?_
                rintro en w7 ⟨rfl, rfl⟩
                go_wp2_with fail
                go_ret2
                exact HR.out
              · have HE := Lib.hid (ref_rbits q vc (widthT K) cur wr HGc.out.rd HW.out.2 (by omega) HGc.out.len)
                have HDx := Lib.hid (fun h => decX_wrong HOnes.out hsh h)
                have HDr := Lib.hid (fun h => decX_right HOnes.out hsh h)
                have hu := numOf_lt (cur.take (widthT K))
                rw [List.length_take, Nat.min_eq_left (by omega)] at hu
                have HU := Lib.hid hu
                clear hsh hu
                go_wp2_with fail
                refine HE.out.mono ?_
                rintro en w7 ⟨rfl, v7, hP⟩
                have HG7 := Lib.hid (HGc.out.read hP)
                have hcw7 : w7.cell? ⟨n1, K, none⟩ = some (.int .i64 (widthT K : Int)) := ((HG7.out.mods.blk HT.out (fun e => by have := HQ.out; omega)).cell _).trans (widthCells_get hK4)
                have HSg := Lib.hid (ref_signed (numOf (cur.take (widthT K))) (widthT K) HW.out HU.out w7)
                generalize numOf (cur.take (widthT K)) = u at *
                clear hP HE hcw
                go_wp2_with fail
                refine HSg.out.mono ?_
                rintro en w8 ⟨rfl, rfl⟩
                have HFm := Lib.hid (ref_form (signT u (widthT K)) w8)
                generalize signT u (widthT K) = x at *
                by_cases hfk : formT x = K
                · have HNx := Lib.hid (getAt_next hj HLen.out HDec.out (HDr.out hfk))
                  have hfb : ((formT x : Int) == (K : Int)) = true := by rw [hfk]; simp
                  rw [hfk] at HFm
                  clear hfk hfb hcw7
                  go_wp2_with fail
                  refine HFm.out.mono ?_
                  rintro en w9 ⟨rfl, rfl⟩
                  have HRow := Lib.hid HG7.out.row
                  obtain ⟨bx, ox, cx, e, hm1, hm2, hcx⟩ := (Rd.of_owns HG7.out.row).at (fun e => by have := congrArg List.length e; rw [i64s_length, HLen.out] at this; simp at this; omega)
                  simp only [Value.slice.injEq] at e
                  obtain ⟨rfl, hjl, rfl⟩ := e
                  have hcl := hcx k _ HLast.out
                  have HLb : Hid ((acc.length + 1) * 8 ≤ 140737488355328 ∧ acc.length + 1 ≤ maxLen) := by show _ ∧ _; have := HLen.out; have := HNn.out; unfold maxLen; omega
                  clear hcx hm1 hm2 hjl
                  go_wp2_with (at_builtin; refine wpList_push Tryd.elemI64 w9 #[.int .i64 (wrap64 (last + wrap64 (d + x)))] _ _ _ (owns_rebase HRow.out (fun _ _ => Nat.zero_le _)) rfl (one_cell _ rfl) HLb.out rfl _ _ rfl rfl rfl ?_)
                  intro v8 w8 hown hmods hfr
                  have HG8 : Hid (GSt q w6 v w8 v8 (acc ++ [wrap64 (last + wrap64 (d + x))]) _ _) := HG7.out.pushed (by rw [List.length_append, i64s_append]; exact hown) hmods hfr
                  obtain ⟨p8, c8, hv8⟩ : ∃ p c, v8 = .slice p (j + 1) c := by have := (Rd.of_owns HG8.out.row).shape; rwa [List.length_append, HLen.out] at this
                  subst hv8
                  clear hown hmods hfr hcl
                  go_wp2_with fail
                  go_round
                  case rel => exact ⟨j + 1, _, _, _, _, by omega, by go_num, rfl, by simp [HLen.out], HNx.out, HG8.out⟩
                  case measure => simp [intOf]; omega
                · have HR := Lib.hid (HG7.out.fails (w := w) (by rw [HN1.out]; exact HB6.out) (getAt_bad hj HDec.out (by decide) (HDx.out hfk)))
                  have hfb : ((formT x : Int) == (K : Int)) = false := by rw [beq_eq_false_iff_ne]; omega
                  have hfn : ¬ (formT x : Int) = (K : Int) := by omega
                  clear hcw7
                  go_wp2_with fail
                  refine HFm.out.mono ?_
                  rintro en w9 ⟨rfl, rfl⟩
                  go_wp2_with fail
                  go_ret2
                  exact HR.out
    · have hj' : ¬ (j : Int) < (n : Int) := by omega
      obtain rfl : j = n := by omega
      have HD := Lib.hid (getAt_done HA.out)
      go_wp2_with fail
      go_ret2
      rw [HD.out]
      exact ⟨⟨_, rfl, Rd.of_owns HG.out.row, fun k hk => by have := (HG.out.row.lt k hk).1; have := HB6.out.size; have := HN1.out; have := HS6.out; omega⟩, ⟨v', HG.out.rd, HG.out.own⟩, (Mods.of_below (by rw [HN1.out]; exact HB6.out) _).trans HG.out.mods (fun _ _ e => e)⟩
end Go.Proofs.YtjgiaibpipgjjaaDoor
