/- Ref05C, Ref06O, GSu, Ref06C, in one text. -/
import Derived.Test.YtgpmoimmpbkgfaaGreatDoorMrg17
import Derived.Test.YtgpmoimmpbkgfaaGreatDoorMrg6
import Derived.Test.YtgpmoimmpbkgfaaGreatDoorMrg15
import Derived.Test.YtgpmoimmpbkgfaaGreatDoorMrg3
import Derived.Test.YtgpmoimmpbkgfaaGreatDoorMrg16

section
/- Layer 5: the reference's Get. -/
set_option linter.unusedVariables false
set_option maxRecDepth 20000
namespace Go.Proofs.YtgpmoimmpbkgfaaGreatDoor
open Go Go.RowKit




/-- Where the reference's Get stands: what it has read, and its reader. -/
structure GSt (q : Nat) (w6 : World) (v : Value) (wr : World) (lv : Value) (acc : List Int) (v' : Value) (bits : List Bool) : Prop where
  row : wr.ownsRow w6.heap.size 2 1 lv acc.length (i64s acc)
  rd : RefIn wr q v' bits
  own : bits ≠ [] → v'.ownBlock = v.ownBlock
  mods : Mods (fun k => k = q) w6 wr
  lt : q < w6.heap.size
  vlt : bits ≠ [] → ∀ k, v.ownBlock = some k → k < w6.heap.size
  len : bits.length ≤ 70368744177664
theorem GSt.read {q : Nat} {w6 wr w' : World} {v lv v' v'' : Value} {acc : List Int} {bits : List Bool} {n : Nat} (h : GSt q w6 v wr lv acc v' bits) (k : RefBitsPost q v' (bits.drop n) wr v'' w') : GSt q w6 v w' lv acc v'' (bits.drop n) := by
  have hb : bits.drop n ≠ [] → bits ≠ [] := fun h e => h (by rw [e]; simp)
  refine ⟨k.mods.owns h.row (fun j hj e => by have := (h.row.lt j hj).1; have := h.lt; omega), k.rd, fun hne => (k.own hne).trans (h.own (hb hne)), h.mods.trans k.mods (fun _ _ e => e), h.lt, fun hne => h.vlt (hb hne), by rw [List.length_drop]; have := h.len; omega⟩
theorem GSt.pushed {q : Nat} {w6 wr w' : World} {v lv lv' v' : Value} {acc acc' : List Int} {bits : List Bool} (h : GSt q w6 v wr lv acc v' bits) (hr : w'.ownsRow 0 2 1 lv' acc'.length (i64s acc')) (hm : Mods (fun k => lv.ownBlock = some k) wr w') (hf : Fresh wr.heap.size lv lv') : GSt q w6 v w' lv' acc' v' bits := by
  have hq : ¬ lv.ownBlock = some q := fun e => by have := (h.row.lt q e).1; have := h.lt; omega
  refine ⟨owns_rebase hr (fun k hk => ?_), h.rd.mods hm hq (fun hne k hk e => ?_), h.own, h.mods.trans (hm.mono (T := fun k => k = q ∨ w6.heap.size ≤ k) (fun j _ e => Or.inr (h.row.lt j e).1)) (fun j hj e => ?_), h.lt, h.vlt, h.len⟩
  · rcases hf k hk with e | e
    · exact (h.row.lt k e).1
    · have := h.mods.size; omega
  · rw [h.own hne] at hk
    have := h.vlt hne k hk; have := (h.row.lt k e).1; omega
  · rcases e with e | e
    · exact e
    · omega
theorem GSt.drewN {q : Nat} {w6 wr : World} {v lv v' : Value} {acc : List Int} {bits : List Bool} (h : GSt q w6 v wr lv acc v' bits) (n : Nat) : GSt q w6 v (wr.drewN n) lv acc v' bits :=
  ⟨(Mods.drewN (fun _ => False) wr n).owns h.row (fun _ _ e => e), h.rd.drewN n, h.own, h.mods.trans (Mods.drewN _ _ _) (fun _ _ e => e), h.lt, h.vlt, h.len⟩

/-- What the reference's Get leaves. -/
def GetPost (q : Nat) (w : World) (v : Value) (o : Res (List Int)) (e : Ending) (w' : World) : Prop :=
  (∃ r, e = .returned (.tuple #[r, .int .i64 (o.e : Int)]) ∧ Rd w' 1 r o.x.length (i64s o.x) ∧ (∀ k, r.ownBlock = some k → w.heap.size ≤ k)) ∧ (∃ v', RefIn w' q v' o.r ∧ (o.r ≠ [] → v'.ownBlock = v.ownBlock)) ∧ Mods (fun k => k = q) w w'
theorem GSt.fails {q : Nat} {w w6 wr : World} {v lv v' : Value} {acc : List Int} {bits : List Bool} (h : GSt q w6 v wr lv acc v' bits) (hB : Below w.heap.size w w6) {o : Res (List Int)} {e : Nat} (ho : o = ⟨e, [], bits⟩) :
    GetPost q w v o (.returned (.tuple #[.slice none 0 0, .int .i64 (e : Int)])) wr := by
  subst ho
  exact ⟨⟨_, rfl, Rd.nil _ _, fun k e => by cases e⟩, ⟨v', h.rd, h.own⟩, (Mods.of_below hB _).trans h.mods (fun _ _ e => e)⟩

set_option maxRecDepth 10000 in
set_option maxHeartbeats 8000000 in
theorem ref_get05 (q : Nat) (v : Value) (n : Nat) (bs : List Bool) (w : World) (h : RefIn w q v bs) (hb : bs.length ≤ 70368744177664) (hn : n ≤ 1000000) :
    Calls Tryz.prog 40 #[.pointer (some ⟨q, 0, none⟩), .int .i64 (n : Int)] w (GetPost q w v (decT n bs)) := by
  have H := Lib.hid h
  have HNn := Lib.hid hn
  clear h hn
  go_enter Tryz.func40, Tryz.ntmps40
  go_wp2_with (refine wpList_allocA Tryz.arrI5 rfl rfl ?_)
  intro w1 hb1 hB1 hs1
  have HK1 := Lib.hid hb1; have HB1 := Lib.hid hB1; have HS1 := Lib.hid hs1
  clear hb1 hB1 hs1
  go_wp2_with (refine wpList_storeA Tryz.arrI5 rfl _ _ rfl w.heap.size rfl widthCells _ rfl HK1.out (by simp) rfl (by decide) ?_)
  intro w6 hb6 hM6 hs6
  have HT := Lib.hid hb6
  have HB6 : Hid (Below w.heap.size w w6) := HB1.out.trans (hM6.below HB1.out.size (fun k hk e => by omega))
  have HS6 : Hid (w6.heap.size = w.heap.size + 1) := by show _ = _; rw [hs6, HS1.out]
  have HQ : Hid (q < w.heap.size) := H.out.blk.lt
  have HG0 : Hid (GSt q w6 v w6 (.slice none 0 0) [] v bs) := ⟨World.ownsRow_nil _ _ _ _, H.out.below HB6.out, fun _ => rfl, Mods.refl _ _, by have := HQ.out; have := HS6.out; omega, fun hne k hk => by
    have := H.out.rd.lt (fun e => hne (by simpa [bls] using e)) k hk
    have := HS6.out; omega, hb⟩
  clear hb6 hM6 hs6 HK1 HB1 HS1
  generalize hn1 : w.heap.size = n1 at *
  have HN1 := Lib.hid hn1
  clear hn1
  go_wp2_with fail
  go_loopw [7, 8, 9] (fun lv dv iv wr => ∃ (j : Nat) (acc : List Int) (d : Int) (bits : List Bool) (v' : Value), j ≤ n ∧ iv = .int .i64 (j : Int) ∧ dv = .int .i64 d ∧ acc.length = j ∧ Hid (GetAt n bs j acc d bits) ∧ Hid (GSt q w6 v wr lv acc v' bits)) (fun _ _ i _ => n - (intOf i).toNat)
  case atStart => exact ⟨0, [], 0, bs, v, by omega, rfl, rfl, rfl, Or.inl ⟨rfl, rfl, rfl, rfl⟩, HG0.out⟩
  case round =>
    obtain ⟨j, acc, d, bits, v', hjn, rfl, rfl, hal, HA, HG⟩ := hrel
    have HLen := Lib.hid hal
    obtain ⟨pa, ca, hva⟩ := (Rd.of_owns HG.out.row).shape
    rw [hal] at hva
    subst hva
    have hjb0 : (j : Int) ≤ 1000000 := by have := HNn.out; omega
    clear hal
    by_cases hj : j < n
    · have hj' : (j : Int) < (n : Int) := by omega
      by_cases hj0 : j = 0
      · subst hj0
        obtain ⟨rfl, rfl, rfl⟩ : acc = [] ∧ d = 0 ∧ bits = bs := by
          rcases HA.out with ⟨_, h1, h2, h3⟩ | ⟨k, _, h, _⟩
          · exact ⟨h1, h2, h3⟩
          · omega
        have hn0 : (0 : Int) < (n : Int) := by omega
        by_cases h64 : bits.length < 64
        · have HE := Lib.hid (calls_flip (ref_rbits_eof q v' 64 bits wr HG.out.rd (by decide) h64))
          have HR := Lib.hid (HG.out.fails (w := w) (by rw [HN1.out]; exact HB6.out) (getAt_first_eof hj h64))
          go_wp2_with fail
          refine HE.out.mono ?_
          rintro en w7 ⟨rfl, rfl⟩
          go_wp2_with fail
          go_ret2
          exact HR.out
        · have HE := Lib.hid (ref_rbits q v' 64 bits wr HG.out.rd (by decide) (by omega) hb)
          have HNx := Lib.hid (getAt_first hj h64)
          have hlt := numOf_lt (bits.take 64)
          rw [List.length_take, Nat.min_eq_left (by omega)] at hlt
          go_wp2_with fail
          refine HE.out.mono ?_
          rintro en w7 ⟨rfl, v7, hP⟩
          have HG7 := Lib.hid (HG.out.read hP)
          have hw : IntKind.i64.wrap ((numOf (bits.take 64) : Nat) : Int) = toI (numOf (bits.take 64)) := wrap_toI (by simpa using hlt)
          generalize toI (numOf (bits.take 64)) = t at *
          generalize numOf (bits.take 64) = u at *
          clear hP hlt HE h64 hb
          have HO7 := Lib.hid (owns_rebase HG7.out.row (base' := 0) (fun _ _ => Nat.zero_le _))
          go_wp2_with (at_builtin; refine wpList_push Tryz.elemI64 w7 #[.int .i64 t] _ _ _ HO7.out rfl (one_cell _ rfl) (by decide) rfl _ _ rfl rfl rfl ?_)
          intro v8 w8 hown hmods hfr
          have HG8 : Hid (GSt q w6 v w8 v8 [t] v7 (bits.drop 64)) := HG7.out.pushed hown hmods hfr
          obtain ⟨p8, c8, hv8⟩ : ∃ p c, v8 = .slice p 1 c := (Rd.of_owns HG8.out.row).shape
          subst hv8
          clear hown hmods hfr HO7 HG7
          clear hw hjb0 hj' hn0
          go_wp2_with fail
          go_round
          case rel => exact ⟨1, [t], 0, _, v7, by omega, rfl, rfl, rfl, HNx.out, HG8.out⟩
          case measure => simp [intOf]; omega
      · rcases HA.out with ⟨h0, _⟩ | ⟨k, last, hjk, hal2, hlast, hdec⟩
        · exact absurd h0 hj0
        have HDec := Lib.hid hdec
        have HLast : Hid ((i64s acc)[k]? = some (.int .i64 last)) := by show _ = _; rw [i64s, List.getElem?_map, hlast]; rfl
        have hj1 : (j : Int) - 1 = (k : Int) := by omega
        have hjb : ((j : Int) == 0) = false := by rw [beq_eq_false_iff_ne]; omega
        have hkj : (k : Int) < (j : Int) := by omega
        clear hlast hdec hjk hal2
        go_wp2_with fail
        go_loopw [12] (fun kv wr2 => ∃ (K : Nat) (cur : List Bool) (vc : Value), K ≤ 4 ∧ kv = .int .i64 (K : Int) ∧ Hid (OnesAt bits K cur) ∧ Hid (GSt q w6 v wr2 (.slice pa j ca) acc vc cur)) (fun kv _ => 4 - (intOf kv).toNat)
        case atStart => exact ⟨0, bits, v', by omega, rfl, onesAt_zero _, HG.out⟩
        case round =>
          obtain ⟨K, cur, vc, hK4, rfl, HOA, HGc⟩ := hrel
          by_cases hk4 : K < 4
          · have hk4' : (K : Int) < 4 := by omega
            cases cur with
            | nil =>
              have HE := Lib.hid (calls_flip (ref_rbits_eof q vc 1 [] wr HGc.out.rd (by decide) (by decide)))
              have HR := Lib.hid (HGc.out.fails (w := w) (by rw [HN1.out]; exact HB6.out) (getAt_bad hj HDec.out (by decide) (onesAt_eof hk4 HOA.out)))
              go_wp2_with fail
              refine HE.out.mono ?_
              rintro en w7 ⟨rfl, rfl⟩
              go_wp2_with fail
              go_ret2
              exact HR.out
            | cons bit cur =>
              have HE := Lib.hid (ref_rbits q vc 1 (bit :: cur) wr HGc.out.rd (by decide) (by simp) HGc.out.len)
              cases bit with
              | true =>
                go_wp2_with fail
                refine HE.out.mono ?_
                rintro en w7 ⟨he, v7, hP⟩
                have he' : en = .returned (.tuple #[.int .u64 1, .int .i64 0]) := he
                subst he'
                have HG7 : Hid (GSt q w6 v w7 (.slice pa j ca) acc v7 cur) := HGc.out.read (n := 1) hP
                clear hP he HE
                go_wp2_with fail
                go_round
                case rel => exact ⟨K + 1, cur, v7, by omega, by go_num, onesAt_next hk4 HOA.out, HG7.out⟩
                case measure => simp [intOf]; omega
              | false =>
                have HOnes := Lib.hid (onesAt_stop hk4 HOA.out)
                go_wp2_with fail
                refine HE.out.mono ?_
                rintro en wc ⟨he, vd, hP⟩
                have he' : en = .returned (.tuple #[.int .u64 0, .int .i64 0]) := he
                subst he'
                have HGd : Hid (GSt q w6 v wc (.slice pa j ca) acc vd cur) := HGc.out.read (n := 1) hP
                clear hP he HE
                by_cases hK0 : K = 0
                · subst hK0
                  have HNx := Lib.hid (getAt_next hj HLen.out HDec.out (decX_zero HOnes.out))
                  rw [Int.add_zero] at HNx
                  have HF0 : Hid (Calls Tryz.prog 62 #[.int .i64 0] wc fun e w' => e = .returned (.int .i64 0) ∧ w' = wc) := ref_form 0 wc
                  go_wp2_with fail
                  refine HF0.out.mono ?_
                  rintro en w7 ⟨rfl, rfl⟩
                  have HRow := Lib.hid HGd.out.row
                  obtain ⟨bx, ox, cx, e, hm1, hm2, hcx⟩ := (Rd.of_owns HGd.out.row).at (fun e => by have := congrArg List.length e; rw [i64s_length, HLen.out] at this; simp at this; omega)
                  simp only [Value.slice.injEq] at e
                  obtain ⟨rfl, hjl, rfl⟩ := e
                  have hcl := hcx k _ HLast.out
                  have HLb : Hid ((acc.length + 1) * 8 ≤ 140737488355328 ∧ acc.length + 1 ≤ maxLen) := by show _ ∧ _; have := HLen.out; have := HNn.out; unfold maxLen; omega
                  clear hcx hm1 hm2 hjl
                  go_wp2_with (at_builtin; refine wpList_push Tryz.elemI64 w7 #[.int .i64 (wrap64 (last + wrap64 (d)))] _ _ _ (owns_rebase HRow.out (fun _ _ => Nat.zero_le _)) rfl (one_cell _ rfl) HLb.out rfl _ _ rfl rfl rfl ?_)
                  intro v8 w8 hown hmods hfr
                  have HG8 : Hid (GSt q w6 v w8 v8 (acc ++ [wrap64 (last + wrap64 (d))]) _ _) := HGd.out.pushed (by rw [List.length_append, i64s_append]; exact hown) hmods hfr
                  obtain ⟨p8, c8, hv8⟩ : ∃ p c, v8 = .slice p (j + 1) c := by have := (Rd.of_owns HG8.out.row).shape; rwa [List.length_append, HLen.out] at this
                  subst hv8
                  clear hown hmods hfr hcl
                  go_wp2_with fail
                  go_round
                  case rel => exact ⟨j + 1, _, _, _, _, by omega, by go_num, rfl, by simp [HLen.out], HNx.out, HG8.out⟩
                  case measure => simp [intOf]; omega
                · have hK0' : (0 : Int) < (K : Int) := by omega
                  have hK5 : (K : Int) < 5 := by omega
                  have hKb : ((K : Int) == 0) = false := by rw [beq_eq_false_iff_ne]; omega
                  have HW : Hid (1 ≤ widthT K ∧ widthT K ≤ 64) := ⟨by obtain ⟨m, rfl⟩ : ∃ m, K = m + 1 := ⟨K - 1, by omega⟩; unfold widthT; split <;> omega, widthT_le K⟩
                  have hcw : wc.cell? ⟨n1, K, none⟩ = some (.int .i64 (widthT K : Int)) := ((HGd.out.mods.blk HT.out (fun e => by have := HQ.out; omega)).cell _).trans (widthCells_get hK4)
                  by_cases hsh : cur.length < widthT K
                  · have HE := Lib.hid (calls_flip (ref_rbits_eof q vd (widthT K) cur wc HGd.out.rd HW.out.2 hsh))
                    have HR := Lib.hid (HGd.out.fails (w := w) (by rw [HN1.out]; exact HB6.out) (getAt_bad hj HDec.out (by decide) (decX_eof HOnes.out hsh)))
                    clear hsh
                    go_wp2_with fail
                    refine HE.out.mono ?_
                    rintro en w7 ⟨rfl, rfl⟩
                    go_wp2_with fail
                    go_ret2
                    exact HR.out
                  · have HE := Lib.hid (ref_rbits q vd (widthT K) cur wc HGd.out.rd HW.out.2 (by omega) HGd.out.len)
                    have HDx := Lib.hid (fun h => decX_wrong HOnes.out hsh h)
                    have HDr := Lib.hid (fun h => decX_right HOnes.out hsh h)
                    have hu := numOf_lt (cur.take (widthT K))
                    rw [List.length_take, Nat.min_eq_left (by omega)] at hu
                    have HU := Lib.hid hu
                    clear hsh hu
                    go_wp2_with fail
                    refine HE.out.mono ?_
                    rintro en w7 ⟨rfl, v7, hP⟩
                    have HG7 := Lib.hid (HGd.out.read hP)
                    have hcw7 : w7.cell? ⟨n1, K, none⟩ = some (.int .i64 (widthT K : Int)) := ((HG7.out.mods.blk HT.out (fun e => by have := HQ.out; omega)).cell _).trans (widthCells_get hK4)
                    have HSg := Lib.hid (ref_signed (numOf (cur.take (widthT K))) (widthT K) HW.out HU.out w7)
                    generalize numOf (cur.take (widthT K)) = u at *
                    clear hP HE hcw
                    go_wp2_with fail
                    refine HSg.out.mono ?_
                    rintro en w8 ⟨rfl, rfl⟩
                    have HFm := Lib.hid (ref_form (signT u (widthT K)) w8)
                    generalize signT u (widthT K) = x at *
                    by_cases hfk : formT x = K
                    · have HNx := Lib.hid (getAt_next hj HLen.out HDec.out (HDr.out hfk))
                      have hfb : ((formT x : Int) == (K : Int)) = true := by rw [hfk]; simp
                      rw [hfk] at HFm
                      clear hfk hfb hcw7
                      go_wp2_with fail
                      refine HFm.out.mono ?_
                      rintro en w9 ⟨rfl, rfl⟩
                      have HRow := Lib.hid HG7.out.row
                      obtain ⟨bx, ox, cx, e, hm1, hm2, hcx⟩ := (Rd.of_owns HG7.out.row).at (fun e => by have := congrArg List.length e; rw [i64s_length, HLen.out] at this; simp at this; omega)
                      simp only [Value.slice.injEq] at e
                      obtain ⟨rfl, hjl, rfl⟩ := e
                      have hcl := hcx k _ HLast.out
                      have HLb : Hid ((acc.length + 1) * 8 ≤ 140737488355328 ∧ acc.length + 1 ≤ maxLen) := by show _ ∧ _; have := HLen.out; have := HNn.out; unfold maxLen; omega
                      clear hcx hm1 hm2 hjl
                      go_wp2_with (at_builtin; refine wpList_push Tryz.elemI64 w9 #[.int .i64 (wrap64 (last + wrap64 (d + x)))] _ _ _ (owns_rebase HRow.out (fun _ _ => Nat.zero_le _)) rfl (one_cell _ rfl) HLb.out rfl _ _ rfl rfl rfl ?_)
                      intro v8 w8 hown hmods hfr
                      have HG8 : Hid (GSt q w6 v w8 v8 (acc ++ [wrap64 (last + wrap64 (d + x))]) _ _) := HG7.out.pushed (by rw [List.length_append, i64s_append]; exact hown) hmods hfr
                      obtain ⟨p8, c8, hv8⟩ : ∃ p c, v8 = .slice p (j + 1) c := by have := (Rd.of_owns HG8.out.row).shape; rwa [List.length_append, HLen.out] at this
                      subst hv8
                      clear hown hmods hfr hcl
                      go_wp2_with fail
                      go_round
                      case rel => exact ⟨j + 1, _, _, _, _, by omega, by go_num, rfl, by simp [HLen.out], HNx.out, HG8.out⟩
                      case measure => simp [intOf]; omega
                    · have HR := Lib.hid (HG7.out.fails (w := w) (by rw [HN1.out]; exact HB6.out) (getAt_bad hj HDec.out (by decide) (HDx.out hfk)))
                      have hfb : ((formT x : Int) == (K : Int)) = false := by rw [beq_eq_false_iff_ne]; omega
                      have hfn : ¬ (formT x : Int) = (K : Int) := by omega
                      clear hcw7
                      go_wp2_with fail
                      refine HFm.out.mono ?_
                      rintro en w9 ⟨rfl, rfl⟩
                      go_wp2_with fail
                      go_ret2
                      exact HR.out
          · have hk4' : ¬ (K : Int) < 4 := by omega
            have HOnes : Hid (ones 4 bits = ⟨0, K, cur⟩) := by
              show _ = _
              have hKe : K = 4 := by omega
              have h4 := HOA.out
              rw [hKe] at h4 ⊢
              exact onesAt_four h4
            by_cases hK0 : K = 0
            · omega
            · have hK0' : (0 : Int) < (K : Int) := by omega
              have hK5 : (K : Int) < 5 := by omega
              have hKb : ((K : Int) == 0) = false := by rw [beq_eq_false_iff_ne]; omega
              have HW : Hid (1 ≤ widthT K ∧ widthT K ≤ 64) := ⟨by obtain ⟨m, rfl⟩ : ∃ m, K = m + 1 := ⟨K - 1, by omega⟩; unfold widthT; split <;> omega, widthT_le K⟩
              have hcw : wr.cell? ⟨n1, K, none⟩ = some (.int .i64 (widthT K : Int)) := ((HGc.out.mods.blk HT.out (fun e => by have := HQ.out; omega)).cell _).trans (widthCells_get hK4)
              by_cases hsh : cur.length < widthT K
              · have HE := Lib.hid (calls_flip (ref_rbits_eof q vc (widthT K) cur wr HGc.out.rd HW.out.2 hsh))
                have HR := Lib.hid (HGc.out.fails (w := w) (by rw [HN1.out]; exact HB6.out) (getAt_bad hj HDec.out (by decide) (decX_eof HOnes.out hsh)))
                clear hsh
                go_wp2_with fail
                refine HE.out.mono ?_
                rintro en w7 ⟨rfl, rfl⟩
                go_wp2_with fail
                go_ret2
                exact HR.out
              · have HE := Lib.hid (ref_rbits q vc (widthT K) cur wr HGc.out.rd HW.out.2 (by omega) HGc.out.len)
                have HDx := Lib.hid (fun h => decX_wrong HOnes.out hsh h)
                have HDr := Lib.hid (fun h => decX_right HOnes.out hsh h)
                have hu := numOf_lt (cur.take (widthT K))
                rw [List.length_take, Nat.min_eq_left (by omega)] at hu
                have HU := Lib.hid hu
                clear hsh hu
                go_wp2_with fail
                refine HE.out.mono ?_
                rintro en w7 ⟨rfl, v7, hP⟩
                have HG7 := Lib.hid (HGc.out.read hP)
                have hcw7 : w7.cell? ⟨n1, K, none⟩ = some (.int .i64 (widthT K : Int)) := ((HG7.out.mods.blk HT.out (fun e => by have := HQ.out; omega)).cell _).trans (widthCells_get hK4)
                have HSg := Lib.hid (ref_signed (numOf (cur.take (widthT K))) (widthT K) HW.out HU.out w7)
                generalize numOf (cur.take (widthT K)) = u at *
                clear hP HE hcw
                go_wp2_with fail
                refine HSg.out.mono ?_
                rintro en w8 ⟨rfl, rfl⟩
                have HFm := Lib.hid (ref_form (signT u (widthT K)) w8)
                generalize signT u (widthT K) = x at *
                by_cases hfk : formT x = K
                · have HNx := Lib.hid (getAt_next hj HLen.out HDec.out (HDr.out hfk))
                  have hfb : ((formT x : Int) == (K : Int)) = true := by rw [hfk]; simp
                  rw [hfk] at HFm
                  clear hfk hfb hcw7
                  go_wp2_with fail
                  refine HFm.out.mono ?_
                  rintro en w9 ⟨rfl, rfl⟩
                  have HRow := Lib.hid HG7.out.row
                  obtain ⟨bx, ox, cx, e, hm1, hm2, hcx⟩ := (Rd.of_owns HG7.out.row).at (fun e => by have := congrArg List.length e; rw [i64s_length, HLen.out] at this; simp at this; omega)
                  simp only [Value.slice.injEq] at e
                  obtain ⟨rfl, hjl, rfl⟩ := e
                  have hcl := hcx k _ HLast.out
                  have HLb : Hid ((acc.length + 1) * 8 ≤ 140737488355328 ∧ acc.length + 1 ≤ maxLen) := by show _ ∧ _; have := HLen.out; have := HNn.out; unfold maxLen; omega
                  clear hcx hm1 hm2 hjl
                  go_wp2_with (at_builtin; refine wpList_push Tryz.elemI64 w9 #[.int .i64 (wrap64 (last + wrap64 (d + x)))] _ _ _ (owns_rebase HRow.out (fun _ _ => Nat.zero_le _)) rfl (one_cell _ rfl) HLb.out rfl _ _ rfl rfl rfl ?_)
                  intro v8 w8 hown hmods hfr
                  have HG8 : Hid (GSt q w6 v w8 v8 (acc ++ [wrap64 (last + wrap64 (d + x))]) _ _) := HG7.out.pushed (by rw [List.length_append, i64s_append]; exact hown) hmods hfr
                  obtain ⟨p8, c8, hv8⟩ : ∃ p c, v8 = .slice p (j + 1) c := by have := (Rd.of_owns HG8.out.row).shape; rwa [List.length_append, HLen.out] at this
                  subst hv8
                  clear hown hmods hfr hcl
                  go_wp2_with fail
                  go_round
                  case rel => exact ⟨j + 1, _, _, _, _, by omega, by go_num, rfl, by simp [HLen.out], HNx.out, HG8.out⟩
                  case measure => simp [intOf]; omega
                · have HR := Lib.hid (HG7.out.fails (w := w) (by rw [HN1.out]; exact HB6.out) (getAt_bad hj HDec.out (by decide) (HDx.out hfk)))
                  have hfb : ((formT x : Int) == (K : Int)) = false := by rw [beq_eq_false_iff_ne]; omega
                  have hfn : ¬ (formT x : Int) = (K : Int) := by omega
                  clear hcw7
                  go_wp2_with fail
                  refine HFm.out.mono ?_
                  rintro en w9 ⟨rfl, rfl⟩
                  go_wp2_with fail
                  go_ret2
                  exact HR.out
    · have hj' : ¬ (j : Int) < (n : Int) := by omega
      obtain rfl : j = n := by omega
      have HD := Lib.hid (getAt_done HA.out)
      go_wp2_with fail
      go_ret2
      rw [HD.out]
      exact ⟨⟨_, rfl, Rd.of_owns HG.out.row, fun k hk => by have := (HG.out.row.lt k hk).1; have := HB6.out.size; have := HN1.out; have := HS6.out; omega⟩, ⟨v', HG.out.rd, HG.out.own⟩, (Mods.of_below (by rw [HN1.out]; exact HB6.out) _).trans HG.out.mods (fun _ _ e => e)⟩
end Go.Proofs.YtgpmoimmpbkgfaaGreatDoor

end

section
/- Layer 6: the reference's outside. -/
set_option linter.unusedVariables false
set_option maxRecDepth 20000
namespace Go.Proofs.YtgpmoimmpbkgfaaGreatDoor
open Go Go.RowKit

theorem ref_outside (x t : Nat) (ht : t ≤ 64) (hx : x * 2 ^ t < 18446744073709551616) (w : World) : Calls Tryz.prog 99 #[.int .u64 (x : Int), .int .i64 (t : Int)] w fun e w' => e = .returned (.int .u64 ((x * 2 ^ t : Nat) : Int)) ∧ w' = w := by
  have HT := Lib.hid ht
  have HX := Lib.hid hx
  clear ht hx
  go_enter Tryz.func99, Tryz.ntmps99
  go_wp2
  go_loop [0, 5] (fun v c => ∃ k : Nat, k ≤ t ∧ c = .int .i64 (k : Int) ∧ v = .int .u64 ((x * 2 ^ k : Nat) : Int)) (fun _ c => t - (intOf c).toNat)
  case atStart => exact ⟨0, Nat.zero_le _, rfl, by simp⟩
  case round =>
    obtain ⟨k, hk, rfl, rfl⟩ := hrel
    by_cases hlt : k < t
    · have hk64 : (k : Int) < 64 := by have := HT.out; omega
      have HV : Hid (x * 2 ^ (k + 1) = x * 2 ^ k * 2) := by show _ = _; rw [Nat.pow_succ, Nat.mul_assoc]
      have hb : x * 2 ^ (k + 1) ≤ x * 2 ^ t := Nat.mul_le_mul_left _ (Nat.pow_le_pow_right (by decide) (by omega))
      have hb2 : ((x * 2 ^ k : Nat) : Int) * 2 ≤ 18446744073709551615 := by have h1 := HX.out; have h2 := HV.out; omega
      clear hb
      generalize x * 2 ^ k = V at *
      go_wp2
      go_round
      case rel => exact ⟨k + 1, by omega, by go_num, by rw [HV.out]; go_num⟩
      case measure => simp [intOf]; omega
    · obtain rfl : k = t := by omega
      go_wp2
      go_ret
      exact ⟨rfl, rfl⟩

end Go.Proofs.YtgpmoimmpbkgfaaGreatDoor

end

section
/- Where a reference's Get over lists of words stands. -/
set_option linter.unusedVariables false
namespace Go.Proofs.YtgpmoimmpbkgfaaGreatDoor
open Go Go.RowKit

/-- Where the reference's Get stands: what it has read, and its reader. -/
structure GSu (q : Nat) (w0 : World) (v : Value) (wr : World) (lv : Value) (acc : List Nat) (v' : Value) (bits : List Bool) : Prop where
  row : wr.ownsRow w0.heap.size 31 1 lv acc.length (u64s acc)
  rd : RefIn wr q v' bits
  own : bits ≠ [] → v'.ownBlock = v.ownBlock
  mods : Mods (fun k => k = q) w0 wr
  lt : q < w0.heap.size
  vlt : bits ≠ [] → ∀ k, v.ownBlock = some k → k < w0.heap.size
  len : bits.length ≤ 70368744177664
theorem GSu.read {q : Nat} {w0 wr w' : World} {v lv v' v'' : Value} {acc : List Nat} {bits : List Bool} {n : Nat} (h : GSu q w0 v wr lv acc v' bits) (k : RefBitsPost q v' (bits.drop n) wr v'' w') : GSu q w0 v w' lv acc v'' (bits.drop n) := by
  have hb : bits.drop n ≠ [] → bits ≠ [] := fun h e => h (by rw [e]; simp)
  refine ⟨k.mods.owns h.row (fun j hj e => by have := (h.row.lt j hj).1; have := h.lt; omega), k.rd, fun hne => (k.own hne).trans (h.own (hb hne)), h.mods.trans k.mods (fun _ _ e => e), h.lt, fun hne => h.vlt (hb hne), by rw [List.length_drop]; have := h.len; omega⟩
theorem GSu.pushed {q : Nat} {w0 wr w' : World} {v lv lv' v' : Value} {acc acc' : List Nat} {bits : List Bool} (h : GSu q w0 v wr lv acc v' bits) (hr : w'.ownsRow 0 31 1 lv' acc'.length (u64s acc')) (hm : Mods (fun k => lv.ownBlock = some k) wr w') (hf : Fresh wr.heap.size lv lv') : GSu q w0 v w' lv' acc' v' bits := by
  have hq : ¬ lv.ownBlock = some q := fun e => by have := (h.row.lt q e).1; have := h.lt; omega
  refine ⟨owns_rebase hr (fun k hk => ?_), h.rd.mods hm hq (fun hne k hk e => ?_), h.own, h.mods.trans (hm.mono (T := fun k => k = q ∨ w0.heap.size ≤ k) (fun j _ e => Or.inr (h.row.lt j e).1)) (fun j hj e => ?_), h.lt, h.vlt, h.len⟩
  · rcases hf k hk with e | e
    · exact (h.row.lt k e).1
    · have := h.mods.size; omega
  · rw [h.own hne] at hk
    have := h.vlt hne k hk; have := (h.row.lt k e).1; omega
  · rcases e with e | e
    · exact e
    · omega
theorem GSu.below {q : Nat} {w0 wr w' : World} {v lv v' : Value} {acc : List Nat} {bits : List Bool} (h : GSu q w0 v wr lv acc v' bits) (hb : Below wr.heap.size wr w') : GSu q w0 v w' lv acc v' bits :=
  ⟨(Mods.of_below hb (fun _ => False)).owns h.row (fun _ _ e => e), h.rd.mods (Mods.of_below hb (fun _ => False)) (fun e => e) (fun _ _ _ e => e), h.own, h.mods.trans (Mods.of_below hb _) (fun _ _ e => e), h.lt, h.vlt, h.len⟩

/-- What the reference's Get leaves. -/
def GetPostV (q : Nat) (w : World) (v : Value) (o : Res (List Nat)) (e : Ending) (w' : World) : Prop :=
  (∃ r, e = .returned (.tuple #[r, .int .i64 (o.e : Int)]) ∧ Rd w' 1 r o.x.length (u64s o.x) ∧ (∀ k, r.ownBlock = some k → w.heap.size ≤ k)) ∧ (∃ v', RefIn w' q v' o.r ∧ (o.r ≠ [] → v'.ownBlock = v.ownBlock)) ∧ Mods (fun k => k = q) w w'
theorem GSu.fails {q : Nat} {w0 wr : World} {v lv v' : Value} {acc : List Nat} {bits : List Bool} (h : GSu q w0 v wr lv acc v' bits) {o : Res (List Nat)} {e : Nat} (ho : o = ⟨e, [], bits⟩) :
    GetPostV q w0 v o (.returned (.tuple #[.slice none 0 0, .int .i64 (e : Int)])) wr := by
  subst ho
  exact ⟨⟨_, rfl, Rd.nil _ _, fun k e => by cases e⟩, ⟨v', h.rd, h.own⟩, h.mods⟩
end Go.Proofs.YtgpmoimmpbkgfaaGreatDoor

end

section
/- Layer 6: the reference's Get. -/
set_option linter.unusedVariables false
namespace Go.Proofs.YtgpmoimmpbkgfaaGreatDoor
open Go Go.RowKit

set_option maxRecDepth 20000 in
set_option maxHeartbeats 16000000 in
theorem ref_get06 (q : Nat) (v : Value) (n : Nat) (bs : List Bool) (w : World) (h : RefIn w q v bs) (hb : bs.length ≤ 70368744177664) (hn : n ≤ 1000000) :
    Calls Tryz.prog 70 #[.pointer (some ⟨q, 0, none⟩), .int .i64 (n : Int)] w (GetPostV q w v (decV n bs)) := by
  have H := Lib.hid h
  have HNn := Lib.hid hn
  have HG0 : Hid (GSu q w v w (.slice none 0 0) [] v bs) := ⟨World.ownsRow_nil _ _ _ _, H.out, fun _ => rfl, Mods.refl _ _, H.out.blk.lt, fun hne k hk => H.out.rd.lt (fun e => hne (by simpa [bls] using e)) k hk, hb⟩
  clear h hn
  go_enter Tryz.func70, Tryz.ntmps70
  go_wp2_with fail
  go_loopw [6, 7, 8, 9] (fun lv dv tv iv wr => ∃ (j : Nat) (acc : List Nat) (win : Option (Nat × Nat)) (bits : List Bool) (v' : Value), j ≤ n ∧ iv = .int .i64 (j : Int) ∧ dv = .int .i64 (leadI win) ∧ tv = .int .i64 (trailI win) ∧ acc.length = j ∧ Hid (GetAtV n bs j acc win bits) ∧ Hid (GSu q w v wr lv acc v' bits)) (fun _ _ _ i _ => n - (intOf i).toNat)
  case atStart => exact ⟨0, [], none, bs, v, by omega, rfl, rfl, rfl, rfl, Or.inl ⟨rfl, rfl, rfl, rfl⟩, HG0.out⟩
  case round =>
    obtain ⟨j, acc, win, bits, v0, hjn, rfl, rfl, rfl, hal, HA, HG⟩ := hrel
    have HLen := Lib.hid hal
    obtain ⟨pa, ca, hva⟩ := (Rd.of_owns HG.out.row).shape
    rw [hal] at hva
    subst hva
    have hjb0 : (j : Int) ≤ 1000000 := by have := HNn.out; omega
    clear hal
    by_cases hj : j < n
    · have hj' : (j : Int) < (n : Int) := by omega
      by_cases hj0 : j = 0
      · subst hj0
        obtain ⟨rfl, rfl, rfl⟩ : acc = [] ∧ win = none ∧ bits = bs := by
          rcases HA.out with ⟨_, h1, h2, h3⟩ | ⟨k, _, h, _⟩
          · exact ⟨h1, h2, h3⟩
          · omega
        have hn0 : (0 : Int) < (n : Int) := by omega
        by_cases h64 : bits.length < 64
        · have HE := Lib.hid (calls_flip (ref_rbits_eof q v0 64 bits wr HG.out.rd (by decide) h64))
          have HR := Lib.hid (HG.out.fails (getV_first_eof hj h64))
          go_wp2_with fail
          refine HE.out.mono ?_
          rintro en w7 ⟨rfl, rfl⟩
          go_wp2_with fail
          go_ret2
          exact HR.out
        · have HE := Lib.hid (ref_rbits q v0 64 bits wr HG.out.rd (by decide) (by omega) hb)
          have HNx := Lib.hid (getV_first hj h64)
          go_wp2_with fail
          refine HE.out.mono ?_
          rintro en w7 ⟨rfl, v7, hP⟩
          have HG7 := Lib.hid (HG.out.read hP)
          generalize numOf (bits.take 64) = u at *
          clear hP HE h64 hb
          have HO7 := Lib.hid (owns_rebase HG7.out.row (base' := 0) (fun _ _ => Nat.zero_le _))
          go_wp2_with (at_builtin; refine wpList_push Tryz.elemU64 w7 #[.int .u64 (u : Int)] _ _ _ HO7.out rfl (one_cell _ rfl) (by decide) rfl _ _ rfl rfl rfl ?_)
          intro v8 w8 hown hmods hfr
          have HG8 : Hid (GSu q w v w8 v8 [u] v7 (bits.drop 64)) := HG7.out.pushed hown hmods hfr
          obtain ⟨p8, c8, hv8⟩ : ∃ p c, v8 = .slice p 1 c := (Rd.of_owns HG8.out.row).shape
          subst hv8
          clear hown hmods hfr HO7 HG7
          clear hjb0 hj' hn0
          go_wp2_with fail
          go_round
          case rel => exact ⟨1, [u], none, _, v7, by omega, rfl, rfl, rfl, rfl, HNx.out, HG8.out⟩
          case measure => simp [intOf]; omega
      · rcases HA.out with ⟨h0, _⟩ | ⟨k, last, hjk, hal2, hlast, hla, hok, hdec⟩
        · exact absurd h0 hj0
        have HDec := Lib.hid hdec
        have HOk := Lib.hid hok; have HLa := Lib.hid hla
        have HLast : Hid ((u64s acc)[k]? = some (.int .u64 (last : Int))) := by show _ = _; rw [u64s, List.getElem?_map, hlast]; rfl
        have hj1 : (j : Int) - 1 = (k : Int) := by omega
        have hjb : ((j : Int) == 0) = false := by rw [beq_eq_false_iff_ne]; omega
        have hkj : (k : Int) < (j : Int) := by omega
        have HKj : Hid (k < j) := by show _ < _; omega
        clear hlast hdec hjk hal2 hok hla
        match bits, HG, HDec with
        | [], HG, HDec =>
          have HE := Lib.hid (calls_flip (ref_rbits_eof q v0 1 [] wr HG.out.rd (by decide) (by decide)))
          have HR := Lib.hid (HG.out.fails (getV_bad hj HDec.out (by decide) (decW_nil win)))
          go_wp2_with fail
          refine HE.out.mono ?_
          rintro en w7 ⟨rfl, rfl⟩
          go_wp2_with fail
          go_ret2
          exact HR.out
        | false :: cur, HG, HDec =>
          have HE1 := Lib.hid (ref_rbits q v0 1 (false :: cur) wr HG.out.rd (by decide) (by simp) HG.out.len)
          go_wp2_with fail
          refine HE1.out.mono ?_
          rintro en w1 ⟨he, v1, hP⟩
          have he' : en = .returned (.tuple #[.int .u64 0, .int .i64 0]) := he
          subst he'
          have HG1 : Hid (GSu q w v w1 (.slice pa j ca) acc v1 cur) := HG.out.read (n := 1) hP
          clear hP he HE1
          have HNx := Lib.hid (getV_next hj HLen.out HLa.out HOk.out HDec.out (decW_same win cur))
          rw [Nat.xor_zero] at HNx
          have HRow := Lib.hid HG1.out.row
          obtain ⟨bx, ox, cx, e, hm1, hm2, hcx⟩ := (Rd.of_owns HG1.out.row).at (fun e => by have := congrArg List.length e; rw [u64s_length, HLen.out] at this; simp at this; have := HKj.out; omega)
          simp only [Value.slice.injEq] at e
          obtain ⟨rfl, hjl, rfl⟩ := e
          have hcl := hcx k _ HLast.out
          have HLb : Hid ((acc.length + 1) * 8 ≤ 140737488355328 ∧ acc.length + 1 ≤ maxLen) := by show _ ∧ _; have := HLen.out; have := HNn.out; unfold maxLen; omega
          clear hcx hm1 hm2 hjl
          go_wp2_with (at_builtin; refine wpList_push Tryz.elemU64 w1 #[.int .u64 (last : Int)] _ _ _ (owns_rebase HRow.out (fun _ _ => Nat.zero_le _)) rfl (one_cell _ rfl) HLb.out rfl _ _ rfl rfl rfl ?_)
          intro v8 w8 hown hmods hfr
          have HG8 : Hid (GSu q w v w8 v8 (acc ++ [last]) v1 cur) := HG1.out.pushed (by rw [List.length_append, u64s_append]; exact hown) hmods hfr
          obtain ⟨p8, c8, hv8⟩ : ∃ p c, v8 = .slice p (j + 1) c := by have := (Rd.of_owns HG8.out.row).shape; rwa [List.length_append, HLen.out] at this
          subst hv8
          clear hown hmods hfr hcl
          go_wp2_with fail
          go_round
          case rel => exact ⟨j + 1, _, win, _, _, by omega, by go_num, rfl, rfl, by simp [HLen.out], HNx.out, HG8.out⟩
          case measure => simp [intOf]; omega
        | [true], HG, HDec =>
          have HE1 := Lib.hid (ref_rbits q v0 1 ([true]) wr HG.out.rd (by decide) (by simp) HG.out.len)
          go_wp2_with fail
          refine HE1.out.mono ?_
          rintro en w1 ⟨he, v1, hP⟩
          have he' : en = .returned (.tuple #[.int .u64 1, .int .i64 0]) := he
          subst he'
          have HG1 : Hid (GSu q w v w1 (.slice pa j ca) acc v1 []) := HG.out.read (n := 1) hP
          clear hP he HE1
          have HE := Lib.hid (calls_flip (ref_rbits_eof q v1 1 [] w1 HG1.out.rd (by decide) (by decide)))
          have HR := Lib.hid (HG1.out.fails (getV_bad hj HDec.out (by decide) (decW_half win)))
          go_wp2_with fail
          refine HE.out.mono ?_
          rintro en w7 ⟨rfl, rfl⟩
          go_wp2_with fail
          go_ret2
          exact HR.out
        | true :: false :: cur, HG, HDec =>
          have HE1 := Lib.hid (ref_rbits q v0 1 (true :: false :: cur) wr HG.out.rd (by decide) (by simp) HG.out.len)
          go_wp2_with fail
          refine HE1.out.mono ?_
          rintro en w1 ⟨he, v1, hP⟩
          have he' : en = .returned (.tuple #[.int .u64 1, .int .i64 0]) := he
          subst he'
          have HG1 : Hid (GSu q w v w1 (.slice pa j ca) acc v1 (false :: cur)) := HG.out.read (n := 1) hP
          clear hP he HE1
          have HE2 := Lib.hid (ref_rbits q v1 1 (false :: cur) w1 HG1.out.rd (by decide) (by simp) HG1.out.len)
          go_wp2_with fail
          refine HE2.out.mono ?_
          rintro en w2 ⟨he, v2, hP⟩
          have he' : en = .returned (.tuple #[.int .u64 0, .int .i64 0]) := he
          subst he'
          have HG2 : Hid (GSu q w v w2 (.slice pa j ca) acc v2 cur) := HG1.out.read (n := 1) hP
          clear hP he HE2
          cases win with
          | none =>
            simp only [leadI, trailI]
            have HR := Lib.hid (HG2.out.fails (getV_bad hj HDec.out (by decide) (decW_none cur)))
            go_wp2_with fail
            go_ret2
            exact HR.out
          | some wn =>
            obtain ⟨Lw, tw⟩ := wn
            simp only [leadI, trailI]
            have HWo : Hid (Lw + tw ≤ 63) := HOk.out Lw tw rfl
            have hLw : (Lw : Int) ≤ 63 := by have := HWo.out; omega
            have htw : (tw : Int) ≤ 63 := by have := HWo.out; omega
            have hs2 : (64 : Int) - (Lw : Int) - (tw : Int) = ((64 - Lw - tw : Nat) : Int) := by have := HWo.out; omega
            have HWd : Hid (64 - Lw - tw ≤ 64) := by show _ ≤ _; omega
            by_cases hsh : cur.length < 64 - Lw - tw
            · have hdx := decOld_short hsh
              have HE := Lib.hid (calls_flip (ref_rbits_eof q v2 (64 - Lw - tw) cur w2 HG2.out.rd HWd.out hsh))
              have HR := Lib.hid (HG2.out.fails (getV_bad hj HDec.out (by decide) hdx))
              generalize 64 - Lw - tw = wd at *
              clear hsh hdx
              go_wp2_with fail
              refine HE.out.mono ?_
              rintro en w7 ⟨rfl, rfl⟩
              go_wp2_with fail
              go_ret2
              exact HR.out
            · have HD0 := Lib.hid (fun h => decOld_zero (L := Lw) (t := tw) hsh h)
              have HD1 := Lib.hid (fun h => decOld_right (L := Lw) (t := tw) hsh h)
              have HE3 := Lib.hid (ref_rbits q v2 (64 - Lw - tw) cur w2 HG2.out.rd HWd.out (by omega) HG2.out.len)
              have hx64 : numOf (cur.take (64 - Lw - tw)) * 2 ^ tw < 18446744073709551616 := Nat.lt_of_lt_of_le (outside_lt (take_lt hsh) HWo.out) (pow_le64 Lw)
              have HOut := Lib.hid (ref_outside (numOf (cur.take (64 - Lw - tw))) tw (by have := HWo.out; omega) hx64)
              have HX64 := Lib.hid hx64
              clear hsh hx64
              generalize 64 - Lw - tw = wd at *
              go_wp2_with fail
              refine HE3.out.mono ?_
              rintro en w3 ⟨rfl, v3, hP⟩
              have HG3 := Lib.hid (HG2.out.read hP)
              generalize numOf (cur.take wd) = u at *
              generalize cur.drop wd = cur3 at *
              clear hP HE3
              go_wp2_with fail
              refine (HOut.out w3).mono ?_
              rintro en w4 ⟨rfl, rfl⟩
              generalize u * 2 ^ tw = x at *
              by_cases hx0 : x = 0
              · have hdx := HD0.out hx0
                subst hx0
                have HR := Lib.hid (HG3.out.fails (getV_bad hj HDec.out (by decide) hdx))
                go_wp2_with fail
                go_ret2
                exact HR.out
              · have hdx := HD1.out hx0
                have hxb : ((x : Int) == 0) = false := by rw [beq_eq_false_iff_ne]; omega
                have hxn : ¬ (x : Int) = 0 := by omega
                clear hx0
                have HDX := Lib.hid hdx
                clear hdx
                have HNx := Lib.hid (getV_next hj HLen.out HLa.out HOk.out HDec.out HDX.out)
                have HX : Hid (Go.bits BinOp.xor IntKind.u64 (last : Int) (x : Int) = ((last ^^^ x : Nat) : Int)) := bits_xor_u64_nat last x HLa.out HX64.out
                have HRow := Lib.hid HG3.out.row
                obtain ⟨bx, ox, cx, e, hm1, hm2, hcx⟩ := (Rd.of_owns HG3.out.row).at (fun e => by have := congrArg List.length e; rw [u64s_length, HLen.out] at this; simp at this; have := HKj.out; omega)
                simp only [Value.slice.injEq] at e
                obtain ⟨rfl, hjl, rfl⟩ := e
                have hcl := hcx k _ HLast.out
                have HLb : Hid ((acc.length + 1) * 8 ≤ 140737488355328 ∧ acc.length + 1 ≤ maxLen) := by show _ ∧ _; have := HLen.out; have := HNn.out; unfold maxLen; omega
                clear hcx hm1 hm2 hjl
                go_wp2_with (at_builtin; refine wpList_push Tryz.elemU64 w4 #[.int .u64 (Go.bits BinOp.xor IntKind.u64 (last : Int) (x : Int))] _ _ _ (owns_rebase HRow.out (fun _ _ => Nat.zero_le _)) rfl (one_cell _ rfl) HLb.out rfl _ _ rfl rfl rfl ?_)
                intro v8 w8 hown hmods hfr
                have HG8 : Hid (GSu q w v w8 v8 (acc ++ [last ^^^ x]) v3 cur3) := HG3.out.pushed (by rw [List.length_append, u64s_append]; rw [HX.out] at hown; exact hown) hmods hfr
                obtain ⟨p8, c8, hv8⟩ : ∃ p c, v8 = .slice p (j + 1) c := by have := (Rd.of_owns HG8.out.row).shape; rwa [List.length_append, HLen.out] at this
                subst hv8
                clear hown hmods hfr hcl
                go_wp2_with fail
                go_round
                case rel => exact ⟨j + 1, _, some (Lw, tw), _, _, by omega, by go_num, rfl, rfl, by simp [HLen.out], HNx.out, HG8.out⟩
                case measure => simp [intOf]; omega
        | true :: true :: cur, HG, HDec =>
          have HE1 := Lib.hid (ref_rbits q v0 1 (true :: true :: cur) wr HG.out.rd (by decide) (by simp) HG.out.len)
          go_wp2_with fail
          refine HE1.out.mono ?_
          rintro en w1 ⟨he, v1, hP⟩
          have he' : en = .returned (.tuple #[.int .u64 1, .int .i64 0]) := he
          subst he'
          have HG1 : Hid (GSu q w v w1 (.slice pa j ca) acc v1 (true :: cur)) := HG.out.read (n := 1) hP
          clear hP he HE1
          have HE2 := Lib.hid (ref_rbits q v1 1 (true :: cur) w1 HG1.out.rd (by decide) (by simp) HG1.out.len)
          go_wp2_with fail
          refine HE2.out.mono ?_
          rintro en w2 ⟨he, v2, hP⟩
          have he' : en = .returned (.tuple #[.int .u64 1, .int .i64 0]) := he
          subst he'
          have HG2 : Hid (GSu q w v w2 (.slice pa j ca) acc v2 cur) := HG1.out.read (n := 1) hP
          clear hP he HE2
          by_cases h6 : cur.length < 6
          · have hdx := decNew_short1 (win := win) h6
            have HE := Lib.hid (calls_flip (ref_rbits_eof q v2 6 cur w2 HG2.out.rd (by decide) h6))
            have HR := Lib.hid (HG2.out.fails (getV_bad hj HDec.out (by decide) hdx))
            clear h6 hdx
            go_wp2_with fail
            refine HE.out.mono ?_
            rintro en w7 ⟨rfl, rfl⟩
            go_wp2_with fail
            go_ret2
            exact HR.out
          · have HF1 := Lib.hid (field_full h6)
            have ha := take_lt h6
            have HE3 := Lib.hid (ref_rbits q v2 6 cur w2 HG2.out.rd (by decide) (by omega) HG2.out.len)
            clear h6
            go_wp2_with fail
            refine HE3.out.mono ?_
            rintro en w3 ⟨rfl, v3, hP⟩
            have HG3 := Lib.hid (HG2.out.read hP)
            generalize numOf (cur.take 6) = a at *
            generalize cur.drop 6 = c1 at *
            have hai : (a : Int) ≤ 63 := by omega
            have hwa : IntKind.i64.wrap (a : Int) = (a : Int) := IntWalk.i64_in _ (by omega)
            clear hP HE3 ha
            by_cases h6 : c1.length < 6
            · have hdx := decNew_short2 (win := win) HF1.out h6
              have HE := Lib.hid (calls_flip (ref_rbits_eof q v3 6 c1 w3 HG3.out.rd (by decide) h6))
              have HR := Lib.hid (HG3.out.fails (getV_bad hj HDec.out (by decide) hdx))
              clear h6 hdx
              go_wp2_with fail
              refine HE.out.mono ?_
              rintro en w7 ⟨rfl, rfl⟩
              go_wp2_with fail
              go_ret2
              exact HR.out
            · have HF2 := Lib.hid (field_full h6)
              have hy := take_lt h6
              have HE4 := Lib.hid (ref_rbits q v3 6 c1 w3 HG3.out.rd (by decide) (by omega) HG3.out.len)
              clear h6
              go_wp2_with fail
              refine HE4.out.mono ?_
              rintro en w4 ⟨rfl, v4, hP⟩
              have HG4 := Lib.hid (HG3.out.read hP)
              generalize numOf (c1.take 6) = y at *
              generalize c1.drop 6 = c2 at *
              have hyi : (y : Int) ≤ 63 := by omega
              have hwy : IntKind.i64.wrap (y : Int) = (y : Int) := IntWalk.i64_in _ (by omega)
              clear hP HE4 hy
              by_cases hay : 63 < a + y
              · have hdx := decNew_wide (win := win) HF1.out HF2.out hay
                have hneg : (63 : Int) - (a : Int) - (y : Int) < 0 := by omega
                clear hay
                have HR := Lib.hid (HG4.out.fails (getV_bad hj HDec.out (by decide) hdx))
                go_wp2_with fail
                go_ret2
                exact HR.out
              · have HAy : Hid (¬ 63 < a + y) := hay
                have hs1 : (63 : Int) - (a : Int) - (y : Int) = ((63 - a - y : Nat) : Int) := by omega
                have hs2 : (64 : Int) - (a : Int) - ((63 - a - y : Nat) : Int) = ((64 - a - (63 - a - y) : Nat) : Int) := by omega
                have HWd : Hid (64 - a - (63 - a - y) ≤ 64 ∧ a + (63 - a - y) ≤ 63) := by show _ ∧ _; omega
                have hbb : ((63 - a - y : Nat) : Int) ≤ 63 := by omega
                clear hay
                by_cases hsh : c2.length < 64 - a - (63 - a - y)
                · have hdx := decNew_short3 (win := win) HF1.out HF2.out HAy.out hsh
                  have HE := Lib.hid (calls_flip (ref_rbits_eof q v4 (64 - a - (63 - a - y)) c2 w4 HG4.out.rd HWd.out.1 hsh))
                  have HR := Lib.hid (HG4.out.fails (getV_bad hj HDec.out (by decide) hdx))
                  clear hsh hdx HAy HF1 HF2
                  generalize 64 - a - (63 - a - y) = wd at *
                  generalize 63 - a - y = bb at *
                  go_wp2_with fail
                  refine HE.out.mono ?_
                  rintro en w7 ⟨rfl, rfl⟩
                  go_wp2_with fail
                  go_ret2
                  exact HR.out
                · have HF3 := Lib.hid (field_full hsh)
                  have HD0 := Lib.hid (fun h => decNew_zero (win := win) HF1.out HF2.out HAy.out HF3.out h)
                  have HD8 := Lib.hid (fun h h' => decNew_wrong (win := win) HF1.out HF2.out HAy.out HF3.out h h')
                  have HD1 := Lib.hid (fun h h' => decNew_right (win := win) HF1.out HF2.out HAy.out HF3.out h h')
                  have HE5 := Lib.hid (ref_rbits q v4 (64 - a - (63 - a - y)) c2 w4 HG4.out.rd HWd.out.1 (by omega) HG4.out.len)
                  have hx64 : numOf (c2.take (64 - a - (63 - a - y))) * 2 ^ (63 - a - y) < 18446744073709551616 := Nat.lt_of_lt_of_le (outside_lt (take_lt hsh) HWd.out.2) (pow_le64 a)
                  have HOut := Lib.hid (ref_outside (numOf (c2.take (64 - a - (63 - a - y)))) (63 - a - y) (by omega) hx64)
                  have HX64 := Lib.hid hx64
                  clear hsh hx64 HF1 HF2 HF3 HAy
                  generalize 64 - a - (63 - a - y) = wd at *
                  generalize 63 - a - y = bb at *
                  go_wp2_with fail
                  refine HE5.out.mono ?_
                  rintro en w5 ⟨rfl, v5, hP⟩
                  have HG5 := Lib.hid (HG4.out.read hP)
                  generalize numOf (c2.take wd) = u at *
                  generalize c2.drop wd = c3 at *
                  clear hP HE5
                  go_wp2_with fail
                  refine (HOut.out w5).mono ?_
                  rintro en w6 ⟨rfl, rfl⟩
                  generalize u * 2 ^ bb = x at *
                  by_cases hx0 : x = 0
                  · have hdx := HD0.out hx0
                    subst hx0
                    have HR := Lib.hid (HG5.out.fails (getV_bad hj HDec.out (by decide) hdx))
                    go_wp2_with fail
                    go_ret2
                    exact HR.out
                  · have hxb : ((x : Int) == 0) = false := by rw [beq_eq_false_iff_ne]; omega
                    have hxn : ¬ (x : Int) = 0 := by omega
                    have HZ := Lib.hid (ref_zeros x HX64.out hx0 w6)
                    have HX0 : Hid (x ≠ 0) := hx0
                    have HWn := Lib.hid (window HX64.out hx0)
                    have HFt : Hid (∀ L T, win = some (L, T) → fits win x = (decide (L ≤ leadV x) && decide (T ≤ trailV x))) := fun L T e => by rw [e]; rfl
                    clear hx0
                    generalize leadV x = p at *
                    generalize trailV x = t at *
                    have hpi : (p : Int) ≤ 63 := by have := HWn.out; omega
                    have hti : (t : Int) ≤ 63 := by have := HWn.out; omega
                    go_wp2_with fail
                    refine HZ.out.mono ?_
                    rintro en w9 ⟨rfl, hB9⟩
                    have HG9 := Lib.hid (HG5.out.below hB9)
                    clear hB9 HZ
                    by_cases hpa : p = a
                    · subst hpa
                      by_cases htb : t = bb
                      · subst htb
                        cases win with
                        | none =>
                          simp only [leadI, trailI]
                          have hdx := HD1.out HX0.out (fun h => by rcases h with h | h | h; exact h rfl; exact h rfl; cases h)
                          have HDX := Lib.hid hdx
                          clear hdx
                          have HNx := Lib.hid (getV_next hj HLen.out HLa.out HOk.out HDec.out HDX.out)
                          have HX : Hid (Go.bits BinOp.xor IntKind.u64 (last : Int) (x : Int) = ((last ^^^ x : Nat) : Int)) := bits_xor_u64_nat last x HLa.out HX64.out
                          have HRow := Lib.hid HG9.out.row
                          obtain ⟨bx, ox, cx, e, hm1, hm2, hcx⟩ := (Rd.of_owns HG9.out.row).at (fun e => by have := congrArg List.length e; rw [u64s_length, HLen.out] at this; simp at this; have := HKj.out; omega)
                          simp only [Value.slice.injEq] at e
                          obtain ⟨rfl, hjl, rfl⟩ := e
                          have hcl := hcx k _ HLast.out
                          have HLb : Hid ((acc.length + 1) * 8 ≤ 140737488355328 ∧ acc.length + 1 ≤ maxLen) := by show _ ∧ _; have := HLen.out; have := HNn.out; unfold maxLen; omega
                          clear hcx hm1 hm2 hjl
                          go_wp2_with (at_builtin; refine wpList_push Tryz.elemU64 w9 #[.int .u64 (Go.bits BinOp.xor IntKind.u64 (last : Int) (x : Int))] _ _ _ (owns_rebase HRow.out (fun _ _ => Nat.zero_le _)) rfl (one_cell _ rfl) HLb.out rfl _ _ rfl rfl rfl ?_)
                          intro v8 w8 hown hmods hfr
                          have HG8 : Hid (GSu q w v w8 v8 (acc ++ [last ^^^ x]) v5 c3) := HG9.out.pushed (by rw [List.length_append, u64s_append]; rw [HX.out] at hown; exact hown) hmods hfr
                          obtain ⟨p8, c8, hv8⟩ : ∃ p c, v8 = .slice p (j + 1) c := by have := (Rd.of_owns HG8.out.row).shape; rwa [List.length_append, HLen.out] at this
                          subst hv8
                          clear hown hmods hfr hcl
                          go_wp2_with fail
                          go_round
                          case rel => exact ⟨j + 1, _, some (p, t), _, _, by omega, by go_num, rfl, rfl, by simp [HLen.out], HNx.out, HG8.out⟩
                          case measure => simp [intOf]; omega
                        | some wn =>
                          obtain ⟨Lw, tw⟩ := wn
                          simp only [leadI, trailI]
                          have HWo : Hid (Lw + tw ≤ 63) := HOk.out Lw tw rfl
                          have hLw : (Lw : Int) ≤ 63 := by have := HWo.out; omega
                          have htw : (tw : Int) ≤ 63 := by have := HWo.out; omega
                          by_cases hfL : Lw ≤ p
                          · have hgL : (Lw : Int) ≤ (p : Int) := by omega
                            by_cases hft : tw ≤ t
                            · have hgt : (tw : Int) ≤ (t : Int) := by omega
                              have hdx := HD8.out HX0.out (Or.inr (Or.inr (by rw [HFt.out Lw tw rfl]; simp [hfL, hft])))
                              clear hfL hft
                              have HR := Lib.hid (HG9.out.fails (getV_bad hj HDec.out (by decide) hdx))
                              go_wp2_with fail
                              go_ret2
                              exact HR.out
                            · have hgt : ¬ (tw : Int) ≤ (t : Int) := by omega
                              have hdx := HD1.out HX0.out (fun h => by
                                rcases h with h | h | h
                                · exact h rfl
                                · exact h rfl
                                · rw [HFt.out Lw tw rfl] at h; simp [hft] at h)
                              have HDX := Lib.hid hdx
                              clear hfL hft hdx
                              have HNx := Lib.hid (getV_next hj HLen.out HLa.out HOk.out HDec.out HDX.out)
                              have HX : Hid (Go.bits BinOp.xor IntKind.u64 (last : Int) (x : Int) = ((last ^^^ x : Nat) : Int)) := bits_xor_u64_nat last x HLa.out HX64.out
                              have HRow := Lib.hid HG9.out.row
                              obtain ⟨bx, ox, cx, e, hm1, hm2, hcx⟩ := (Rd.of_owns HG9.out.row).at (fun e => by have := congrArg List.length e; rw [u64s_length, HLen.out] at this; simp at this; have := HKj.out; omega)
                              simp only [Value.slice.injEq] at e
                              obtain ⟨rfl, hjl, rfl⟩ := e
                              have hcl := hcx k _ HLast.out
                              have HLb : Hid ((acc.length + 1) * 8 ≤ 140737488355328 ∧ acc.length + 1 ≤ maxLen) := by show _ ∧ _; have := HLen.out; have := HNn.out; unfold maxLen; omega
                              clear hcx hm1 hm2 hjl
                              go_wp2_with (at_builtin; refine wpList_push Tryz.elemU64 w9 #[.int .u64 (Go.bits BinOp.xor IntKind.u64 (last : Int) (x : Int))] _ _ _ (owns_rebase HRow.out (fun _ _ => Nat.zero_le _)) rfl (one_cell _ rfl) HLb.out rfl _ _ rfl rfl rfl ?_)
                              intro v8 w8 hown hmods hfr
                              have HG8 : Hid (GSu q w v w8 v8 (acc ++ [last ^^^ x]) v5 c3) := HG9.out.pushed (by rw [List.length_append, u64s_append]; rw [HX.out] at hown; exact hown) hmods hfr
                              obtain ⟨p8, c8, hv8⟩ : ∃ p c, v8 = .slice p (j + 1) c := by have := (Rd.of_owns HG8.out.row).shape; rwa [List.length_append, HLen.out] at this
                              subst hv8
                              clear hown hmods hfr hcl
                              go_wp2_with fail
                              go_round
                              case rel => exact ⟨j + 1, _, some (p, t), _, _, by omega, by go_num, rfl, rfl, by simp [HLen.out], HNx.out, HG8.out⟩
                              case measure => simp [intOf]; omega
                          · have hgL : ¬ (Lw : Int) ≤ (p : Int) := by omega
                            have hdx := HD1.out HX0.out (fun h => by
                              rcases h with h | h | h
                              · exact h rfl
                              · exact h rfl
                              · rw [HFt.out Lw tw rfl] at h; simp [hfL] at h)
                            have HDX := Lib.hid hdx
                            clear hfL hdx
                            have HNx := Lib.hid (getV_next hj HLen.out HLa.out HOk.out HDec.out HDX.out)
                            have HX : Hid (Go.bits BinOp.xor IntKind.u64 (last : Int) (x : Int) = ((last ^^^ x : Nat) : Int)) := bits_xor_u64_nat last x HLa.out HX64.out
                            have HRow := Lib.hid HG9.out.row
                            obtain ⟨bx, ox, cx, e, hm1, hm2, hcx⟩ := (Rd.of_owns HG9.out.row).at (fun e => by have := congrArg List.length e; rw [u64s_length, HLen.out] at this; simp at this; have := HKj.out; omega)
                            simp only [Value.slice.injEq] at e
                            obtain ⟨rfl, hjl, rfl⟩ := e
                            have hcl := hcx k _ HLast.out
                            have HLb : Hid ((acc.length + 1) * 8 ≤ 140737488355328 ∧ acc.length + 1 ≤ maxLen) := by show _ ∧ _; have := HLen.out; have := HNn.out; unfold maxLen; omega
                            clear hcx hm1 hm2 hjl
                            go_wp2_with (at_builtin; refine wpList_push Tryz.elemU64 w9 #[.int .u64 (Go.bits BinOp.xor IntKind.u64 (last : Int) (x : Int))] _ _ _ (owns_rebase HRow.out (fun _ _ => Nat.zero_le _)) rfl (one_cell _ rfl) HLb.out rfl _ _ rfl rfl rfl ?_)
                            intro v8 w8 hown hmods hfr
                            have HG8 : Hid (GSu q w v w8 v8 (acc ++ [last ^^^ x]) v5 c3) := HG9.out.pushed (by rw [List.length_append, u64s_append]; rw [HX.out] at hown; exact hown) hmods hfr
                            obtain ⟨p8, c8, hv8⟩ : ∃ p c, v8 = .slice p (j + 1) c := by have := (Rd.of_owns HG8.out.row).shape; rwa [List.length_append, HLen.out] at this
                            subst hv8
                            clear hown hmods hfr hcl
                            go_wp2_with fail
                            go_round
                            case rel => exact ⟨j + 1, _, some (p, t), _, _, by omega, by go_num, rfl, rfl, by simp [HLen.out], HNx.out, HG8.out⟩
                            case measure => simp [intOf]; omega
                      · have htn : ((t : Int) == (bb : Int)) = false := by rw [beq_eq_false_iff_ne]; omega
                        have htn2 : ¬ (t : Int) = (bb : Int) := by omega
                        have hdx := HD8.out HX0.out (Or.inr (Or.inl htb))
                        clear htb
                        have HR := Lib.hid (HG9.out.fails (getV_bad hj HDec.out (by decide) hdx))
                        go_wp2_with fail
                        go_ret2
                        exact HR.out
                    · have hpn : ((p : Int) == (a : Int)) = false := by rw [beq_eq_false_iff_ne]; omega
                      have hpn2 : ¬ (p : Int) = (a : Int) := by omega
                      have hdx := HD8.out HX0.out (Or.inl hpa)
                      clear hpa
                      have HR := Lib.hid (HG9.out.fails (getV_bad hj HDec.out (by decide) hdx))
                      go_wp2_with fail
                      go_ret2
                      exact HR.out
    · have hj' : ¬ (j : Int) < (n : Int) := by omega
      obtain rfl : j = n := by omega
      have HD := Lib.hid (getV_done HA.out)
      go_wp2_with fail
      go_ret2
      rw [HD.out]
      exact ⟨⟨_, rfl, Rd.of_owns HG.out.row, fun k hk => (HG.out.row.lt k hk).1⟩, ⟨v0, HG.out.rd, HG.out.own⟩, HG.out.mods⟩
end Go.Proofs.YtgpmoimmpbkgfaaGreatDoor

end
