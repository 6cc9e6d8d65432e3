/- Ref16G, Ref16H, Ref16C, in one text. -/
import Derived.Test.YtlgphgipfjlbfaaDoorMrg5
import Derived.Test.YtlgphgipfjlbfaaDoorMrg6
import Derived.Test.YtlgphgipfjlbfaaDoorMrg4

section
/- Layer 16: the reference's Parse. -/
set_option linter.unusedVariables false
set_option linter.unusedSimpArgs false
set_option maxRecDepth 20000
namespace Go.Proofs.YtlgphgipfjlbfaaDoor
open Go Go.RowKit

set_option maxHeartbeats 32000000 in
theorem ref_parse16 (bv : Value) (B : List Nat) (w : World) (h : Rd w 1 bv B.length (u8s B)) (hB : ∀ c ∈ B, c < 256) (hz : B.length ≤ 140737488352000) :
    Calls Tryd.prog 13 #[bv] w (GotL16 w B) := by
  have HR := Lib.hid h; have HBl := Lib.hid hB; have HZ := Lib.hid hz
  obtain ⟨pb, cb, hv⟩ := h.shape
  subst hv
  have HVl : Hid (B ≠ [] → ∀ k, (Value.slice pb B.length cb).ownBlock = some k → k < w.heap.size) := fun hne => h.lt (fun e => hne (List.eq_nil_of_length_eq_zero (by have := congrArg List.length e; rw [u8s_length] at this; exact this)))
  clear h hB hz
  go_enter Tryd.func13, Tryd.ntmps13
  go_wp2_with (refine wpList_allocA arrB rfl rfl ?_)
  intro w1 hK1 hB1 hS1
  go_wp2_with (refine wpList_allocA arrI rfl rfl ?_)
  intro w2 hK2 hB2 hS2
  go_wp2_with (refine wpList_allocA arrB rfl rfl ?_)
  intro w3 hK3 hB3 hS3
  go_wp2_with (refine wpList_allocA arrI rfl rfl ?_)
  intro w4 hK4 hB4 hS4
  obtain ⟨g, hg⟩ : ∃ g, w.heap.size = g := ⟨_, rfl⟩
  rw [hg] at hK1 hS1 hK2 hB2 hS2 hK3 hB3 hS3 hK4 hB4 hS4 ⊢
  simp only [Nat.add_assoc, Nat.reduceAdd] at hK2 hB2 hS2 hK3 hB3 hS3 hK4 hB4 hS4 ⊢
  have HGw := Lib.hid hg
  have hA5 : Below w4.heap.size w4 (w4.alloc (.cells #[.slice none 0 0, .slice none 0 0, .slice none 0 0, .slice none 0 0] 23)) := (Below.refl _ w4).alloc (Nat.le_refl _) _
  have hz5 : (w4.alloc (.cells #[.slice none 0 0, .slice none 0 0, .slice none 0 0, .slice none 0 0] 23)).heap.size = w4.heap.size + 1 := by simp
  have hA6 : Below w4.heap.size w4 ((w4.alloc (.cells #[.slice none 0 0, .slice none 0 0, .slice none 0 0, .slice none 0 0] 23)).alloc (.cells #[.int .i64 0, .int .i64 0, .int .i64 0, .int .i64 0, .int .i64 0] 29)) := hA5.alloc (by omega) _
  have hK5 : Blk ((w4.alloc (.cells #[.slice none 0 0, .slice none 0 0, .slice none 0 0, .slice none 0 0] 23)).alloc (.cells #[.int .i64 0, .int .i64 0, .int .i64 0, .int .i64 0, .int .i64 0] 29)) w4.heap.size nil4 := (Blk.new w4 _ _).alloc _
  have hK6 : Blk ((w4.alloc (.cells #[.slice none 0 0, .slice none 0 0, .slice none 0 0, .slice none 0 0] 23)).alloc (.cells #[.int .i64 0, .int .i64 0, .int .i64 0, .int .i64 0, .int .i64 0] 29)) (w4.heap.size + 1) zero5 := by
    rw [← hz5]; exact Blk.new _ _ _
  have hB4' : Below w.heap.size w w4 := by
    have b1 := hB1
    have b2 := b1.trans (hB2.mono (by omega))
    have b3 := b2.trans (hB3.mono (by omega))
    exact b3.trans (hB4.mono (by omega))
  have HP0 : Hid (Ps w ((w4.alloc (.cells #[.slice none 0 0, .slice none 0 0, .slice none 0 0, .slice none 0 0] 23)).alloc (.cells #[.int .i64 0, .int .i64 0, .int .i64 0, .int .i64 0, .int .i64 0] 29)) g nil4 [0, 0, 0, 0, 0]) := by
    have e1 := hK1.of_same (hB2.block g (by omega))
    have e2 := e1.of_same (hB3.block g (by omega))
    have e3 := e2.of_same (hB4.block g (by omega))
    have e4 := e3.of_same (hA6.block g e3.lt)
    have f2 := hK2.of_same (hB3.block _ (by omega))
    have f3 := f2.of_same (hB4.block _ (by omega))
    have f4 := f3.of_same (hA6.block _ f3.lt)
    have i3 := hK3.of_same (hB4.block _ (by omega))
    have i4 := i3.of_same (hA6.block _ i3.lt)
    have j4 := hK4.of_same (hA6.block _ hK4.lt)
    rw [hS4] at hK5 hK6
    exact ⟨e4, f4, i4, j4, hK5, hK6, hB4'.trans (hA6.mono hB4'.size), by omega, rfl, rfl, by decide⟩
  have HL3 : Hid (Blk w4 (g + 2) [.slice none 0 0, .slice none 0 0, .slice none 0 0, .slice none 0 0]) := hK3.of_same (hB4.block _ (by omega))
  have HL4 : Hid (Blk (w4.alloc (.cells #[.slice none 0 0, .slice none 0 0, .slice none 0 0, .slice none 0 0] 23)) (g + 3) [.int .i64 0, .int .i64 0, .int .i64 0, .int .i64 0, .int .i64 0]) := hK4.of_same (hA5.block _ hK4.lt)
  have HSz4 := Lib.hid hS4
  clear hK1 hB1 hS1 hK2 hB2 hS2 hK3 hB3 hS3 hK4 hB4 hS4 hg hA5 hz5 hA6 hK5 hK6 hB4'
  go_wp2_with (first
    | (refine wpList_loadA arrB rfl _ rfl (g + 2) rfl _ HL3.out rfl ?_)
    | (refine wpList_loadA arrI rfl _ rfl (g + 3) rfl _ HL4.out rfl ?_))
  generalize (w4.alloc (.cells #[.slice none 0 0, .slice none 0 0, .slice none 0 0, .slice none 0 0] 23)).alloc (.cells #[.int .i64 0, .int .i64 0, .int .i64 0, .int .i64 0, .int .i64 0] 29) = w6 at *
  try rw [HSz4.out]
  try simp only [Nat.add_assoc, Nat.reduceAdd]
  clear HL3 HL4 HSz4
  refine (ref_literal16 _ B ⟨#[84, 83, 66, 75, 1]⟩ w6 (HR.out.below HP0.out.bel) HBl.out (by decide)).mono ?_
  rw [litH]
  rintro en w7 ⟨rfl, k7, hw7⟩
  have HP7 : Hid (Ps w w7 g nil4 [0, 0, 0, 0, 0]) := by rw [hw7]; exact HP0.out.below ((Mods.drewN (fun _ => False) w6 k7).below (Nat.le_refl _) (fun _ _ e => e))
  clear hw7 HP0
  by_cases h0 : litE B headL = 0
  · have HH0 := Lib.hid h0
    have hlen : 5 ≤ B.length := by have := litE_inv h0; rw [this]; simp [headL]
    have hbm : (B.length : Int) ≤ 140737488352000 := by have := HZ.out; omega
    have HT0 : Hid (outE (secsF (4 - 0) (1 + 0) 5 [] B) 0 = secsF 4 1 5 [] B) := rfl
    have HLen := Lib.hid hlen
    have hbR : Below w7.heap.size w7 (w7.alloc (.cells #[.slice pb B.length cb, .int .i64 5, .int .i64 0] 58)) := (Below.refl _ w7).alloc (Nat.le_refl _) _
    have HP8 := Lib.hid (HP7.out.below hbR)
    have HQl : Hid (g + 6 ≤ w7.heap.size ∧ w.heap.size ≤ w7.heap.size) := ⟨HP7.out.bz.lt, HP7.out.bel.size⟩
    have HR8 : Hid (RRd (w7.alloc (.cells #[.slice pb B.length cb, .int .i64 5, .int .i64 0] 58)) w7.heap.size (.slice pb B.length cb) B 5 ((0 : Nat) : Int)) := ⟨Blk.new w7 _ _, HR.out.below HP8.out.bel, fun hne k hk e => by have := HVl.out hne k hk; have := HP7.out.bel.size; omega⟩
    rw [h0]
    clear HP7 hbR hlen h0
    go_wp2_with fail
    generalize w7.alloc (.cells #[.slice pb B.length cb, .int .i64 5, .int .i64 0] 58) = w8 at *
    obtain ⟨q, hq⟩ : ∃ q, w7.heap.size = q := ⟨_, rfl⟩
    rw [hq] at HR8 HQl ⊢
    clear hq
    go_loopw [11] (fun iv wr => ∃ (i x e : Nat) (acc : List (List Nat × Nat)) (vs : List Value) (az : List Nat), i ≤ 4 ∧ iv = .int .i64 (i : Int) ∧ Hid (Ps w wr g vs az) ∧ Hid (RRd wr q (.slice pb B.length cb) B x (e : Int)) ∧ Hid (e = 0 → x ≤ B.length) ∧ Hid (outE (secsF (4 - i) (1 + i) x acc B) e = secsF 4 1 5 [] B) ∧ Hid (e = 0 → acc.length = i ∧ RdS wr vs (acc.map Prod.fst ++ List.replicate (4 - i) []) ∧ az = acc.map Prod.snd ++ List.replicate (5 - i) 0) ∧ Hid (∀ v ∈ vs, ∀ k, v.ownBlock = some k → q < k)) (fun iv _ => 4 - (intOf iv).toNat)
    case atStart => exact ⟨0, 5, 0, [], nil4, [0, 0, 0, 0, 0], Nat.zero_le _, rfl, HP8.out, HR8.out, (fun _ => HLen.out), HT0.out, fun _ => ⟨rfl, rdS_none w8, rfl⟩, fun v hv k hk => by
      have : v = .slice none 0 0 := List.eq_of_mem_replicate hv
      subst this; cases hk⟩
    case round =>
      obtain ⟨i, x, e, acc, vs, az, hi, rfl, HP, HRr, HX, HT, HI, HV⟩ := hrel
      clear HP8 HR8 HT0
      have him : (i : Int) ≤ 4 := by omega
      obtain ⟨c0, c1, c2, f1, f2⟩ := HRr.out.cells
      by_cases hlt : i < 4
      · have hlt' : (i : Int) < 4 := by omega
        have hlt5 : (i : Int) < 5 := by omega
        obtain ⟨x0, hx0⟩ : ∃ x0, az[i]? = some x0 := ⟨_, List.getElem?_eq_getElem (by have := HP.out.al; omega)⟩
        have ac : wr.cell? ⟨g + 3, i, none⟩ = some (.int .i64 (x0 : Int)) := by rw [HP.out.ba.cell, natI_get hx0]
        have af : wr.frozen? ⟨g + 3, i, none⟩ = false := HP.out.ba.free i
        have hm1 : Mods (fun k => k = g + 3) wr (wr.setCell ⟨g + 3, i, none⟩ (.int .i64 (x : Int))) := Mods.set _ _ _ _ (fun _ => rfl)
        have HP1 : Hid (Ps w (wr.setCell ⟨g + 3, i, none⟩ (.int .i64 (x : Int))) g vs (az.set i x)) := by
          have h := HP.out
          have hb := h.ba.set i (.int .i64 (x : Int))
          rw [show (natI az).set i (.int .i64 (x : Int)) = natI (az.set i x) by simp [natI, List.map_set]] at hb
          exact ⟨hm1.blk h.b2 (fun e => by omega), hm1.blk h.b3 (fun e => by omega), hm1.blk h.bs (fun e => by omega), hb, hm1.blk h.bn (fun e => by omega), hm1.blk h.bz (fun e => by omega), h.bel.trans (hm1.below h.bel.size (fun k hk e => by have := h.low; omega)), h.low, h.vl, by rw [List.length_set]; exact h.al, h.vo⟩
        have HR1 : Hid (RRd (wr.setCell ⟨g + 3, i, none⟩ (.int .i64 (x : Int))) q (.slice pb B.length cb) B x (e : Int)) := HRr.out.mods' hm1 (fun e => by have := HQl.out; omega) (fun hne k hk e => by have := HVl.out hne k hk; have := HP.out.low; omega)
        have HI1 : Hid (e = 0 → acc.length = i ∧ RdS (wr.setCell ⟨g + 3, i, none⟩ (.int .i64 (x : Int))) vs (acc.map Prod.fst ++ List.replicate (4 - i) []) ∧ az = acc.map Prod.snd ++ List.replicate (5 - i) 0) := fun h => by
          obtain ⟨a1, a2, a3⟩ := HI.out h
          exact ⟨a1, a2.mods hm1 (fun v hv k hk e => by have := HV.out v hv k hk; have := HQl.out; omega), a3⟩
        clear hm1 hx0 HI HP HRr
        go_wp2_with fail
        generalize wr.setCell ⟨g + 3, i, none⟩ (.int .i64 (x : Int)) = w2 at *
        refine (rq_section q _ B x e (i + 1) w2 HR1.out HBl.out HZ.out (by omega)).mono ?_
        rintro en w3 ⟨hm3, d, r, x3, e3, rfl, hR3, hf3, hO3, hx3, hd3⟩
        have HP3 := Lib.hid (HP1.out.mods hm3 (fun k e => by have := HQl.out; omega))
        have HR3 := Lib.hid hR3; have HF3 := Lib.hid hf3
        have HO3 := Lib.hid hO3
        have hq2 := HR1.out.blk.lt
        have HRq : Hid (∀ k, r.ownBlock = some k → q < k) := fun k hk => by have := (hO3.lt k hk).1; omega
        have HI3 : Hid (e = 0 → acc.length = i ∧ RdS w3 vs (acc.map Prod.fst ++ List.replicate (4 - i) []) ∧ az = acc.map Prod.snd ++ List.replicate (5 - i) 0) := fun h => by
          obtain ⟨a1, a2, a3⟩ := HI1.out h
          exact ⟨a1, a2.mods hm3 (fun v hv k hk e => by have := HV.out v hv k hk; omega), a3⟩
        have HX3 := Lib.hid hx3
        obtain ⟨pr, cr, hr⟩ := (Rd.of_owns hO3).shape
        subst hr
        clear hm3 hR3 hf3 hO3 hx3 hd3 HP1 HR1 HI1 hq2 c0 c1 c2 f1 f2 ac af
        have HvL : Hid (i < vs.length) := by show _ < _; rw [HP3.out.vl]; exact hlt
        obtain ⟨v0, hv0⟩ : ∃ v0, vs[i]? = some v0 := ⟨_, List.getElem?_eq_getElem HvL.out⟩
        have sc : w3.cell? ⟨g + 2, i, none⟩ = some v0 := by rw [HP3.out.bs.cell]; exact hv0
        have sf : w3.frozen? ⟨g + 2, i, none⟩ = false := HP3.out.bs.free i
        have hm4 : Mods (fun k => k = g + 2) w3 (w3.setCell ⟨g + 2, i, none⟩ (.slice pr d.length cr)) := Mods.set _ _ _ _ (fun _ => rfl)
        have HP4 : Hid (Ps w (w3.setCell ⟨g + 2, i, none⟩ (.slice pr d.length cr)) g (vs.set i (.slice pr d.length cr)) (az.set i x)) := by
          have h := HP3.out
          exact ⟨hm4.blk h.b2 (fun e => by omega), hm4.blk h.b3 (fun e => by omega), h.bs.set i _, hm4.blk h.ba (fun e => by omega), hm4.blk h.bn (fun e => by omega), hm4.blk h.bz (fun e => by omega), h.bel.trans (hm4.below h.bel.size (fun k hk e => by have := h.low; omega)), h.low, by rw [List.length_set]; exact h.vl, h.al, fun u hu => by
            rcases List.mem_or_eq_of_mem_set hu with hu | rfl
            · exact h.vo u hu
            · rfl⟩
        have HR4 : Hid (RRd (w3.setCell ⟨g + 2, i, none⟩ (.slice pr d.length cr)) q (.slice pb B.length cb) B x3 (e3 : Int)) := HR3.out.mods' hm4 (fun e => by have := HQl.out; omega) (fun hne k hk e => by have := HVl.out hne k hk; have := HP3.out.low; omega)
        have HV4 : Hid (∀ v ∈ vs.set i (.slice pr d.length cr), ∀ k, v.ownBlock = some k → q < k) := fun v hv k hk => by
          rcases List.mem_or_eq_of_mem_set hv with hu | rfl
          · exact HV.out v hu k hk
          · exact HRq.out k hk
        have HT4 : Hid (outE (secsF (4 - (i + 1)) (1 + (i + 1)) x3 (acc ++ [(d, x)]) B) e3 = secsF 4 1 5 [] B) := by
          show _ = _
          by_cases h : e3 = 0
          · exact secs_step hlt HT.out HF3.out h
          · exact secs_fail hlt HT.out HF3.out h _ _ _ _
        have HI4 : Hid (e3 = 0 → (acc ++ [(d, x)]).length = i + 1 ∧ RdS (w3.setCell ⟨g + 2, i, none⟩ (.slice pr d.length cr)) (vs.set i (.slice pr d.length cr)) ((acc ++ [(d, x)]).map Prod.fst ++ List.replicate (4 - (i + 1)) []) ∧ az.set i x = (acc ++ [(d, x)]).map Prod.snd ++ List.replicate (5 - (i + 1)) 0) := fun h => by
          obtain ⟨a1, a2, a3⟩ := HI3.out (fin_ok HF3.out h).1
          refine ⟨by rw [List.length_append, a1]; rfl, ?_, by rw [a3]; exact offs_set a1 hlt d x⟩
          rw [← secs_set a1 hlt d x]
          exact (a2.mods hm4 (fun v hv k hk e => by have := HV.out v hv k hk; have := HQl.out; omega)).set ((Rd.of_owns HO3.out).mods hm4 (fun k hk e => by have := HRq.out k hk; have := HQl.out; omega))
        clear hm4 hv0 HP3 HR3 HV HT HI3 HF3 HO3 HRq
        go_wp2_with fail
        go_round
        case rel => exact ⟨i + 1, x3, e3, acc ++ [(d, x)], _, _, by omega, by go_num, HP4.out, HR4.out, HX3.out, HT4.out, HI4.out, HV4.out⟩
        case measure => simp [intOf]; omega
      · have hlt' : ¬ (i : Int) < 4 := by omega
        have hi4 : i = 4 := by omega
        subst hi4
        obtain ⟨x0, hx0⟩ : ∃ x0, az[4]? = some x0 := ⟨_, List.getElem?_eq_getElem (by have := HP.out.al; omega)⟩
        have ac : wr.cell? ⟨g + 3, 4, none⟩ = some (.int .i64 (x0 : Int)) := by rw [HP.out.ba.cell, natI_get hx0]
        have af : wr.frozen? ⟨g + 3, 4, none⟩ = false := HP.out.ba.free 4
        have hm1 : Mods (fun k => k = g + 3) wr (wr.setCell ⟨g + 3, 4, none⟩ (.int .i64 (x : Int))) := Mods.set _ _ _ _ (fun _ => rfl)
        have HP1 : Hid (Ps w (wr.setCell ⟨g + 3, 4, none⟩ (.int .i64 (x : Int))) g vs (az.set 4 x)) := by
          have h := HP.out
          have hb := h.ba.set 4 (.int .i64 (x : Int))
          rw [show (natI az).set 4 (.int .i64 (x : Int)) = natI (az.set 4 x) by simp [natI, List.map_set]] at hb
          exact ⟨hm1.blk h.b2 (fun e => by omega), hm1.blk h.b3 (fun e => by omega), hm1.blk h.bs (fun e => by omega), hb, hm1.blk h.bn (fun e => by omega), hm1.blk h.bz (fun e => by omega), h.bel.trans (hm1.below h.bel.size (fun k hk e => by have := h.low; omega)), h.low, h.vl, by rw [List.length_set]; exact h.al, h.vo⟩
        have HR1 : Hid (RRd (wr.setCell ⟨g + 3, 4, none⟩ (.int .i64 (x : Int))) q (.slice pb B.length cb) B x (e : Int)) := HRr.out.mods' hm1 (fun e => by have := HQl.out; omega) (fun hne k hk e => by have := HVl.out hne k hk; have := HP.out.low; omega)
        have HI1 : Hid (e = 0 → acc.length = 4 ∧ RdS (wr.setCell ⟨g + 3, 4, none⟩ (.int .i64 (x : Int))) vs (acc.map Prod.fst) ∧ az.set 4 x = acc.map Prod.snd ++ [x] ∧ x ≤ B.length) := fun h => by
          obtain ⟨a1, a2, a3⟩ := HI.out h
          rw [show 4 - 4 = 0 from rfl, List.replicate_zero, List.append_nil] at a2
          refine ⟨a1, a2.mods hm1 (fun v hv k hk e => by have := HV.out v hv k hk; have := HQl.out; omega), ?_, HX.out h⟩
          rw [a3, List.set_append_right _ _ (by rw [List.length_map]; omega), List.length_map, a1]
          rfl
        have HT1 : Hid (outE (secsF 0 5 x acc B) e = secsF 4 1 5 [] B) := HT.out
        clear hm1 hx0 HI HP HRr HT HX
        go_wp2_with fail
        generalize wr.setCell ⟨g + 3, 4, none⟩ (.int .i64 (x : Int)) = w2 at *
        obtain ⟨az5, haz⟩ : ∃ az5, az.set 4 x = az5 := ⟨_, rfl⟩
        rw [haz] at HP1 HI1
        clear haz
        refine (rq_section q _ B x e 5 w2 HR1.out HBl.out HZ.out (by decide)).mono ?_
        rintro en w3 ⟨hm3, d, r, x5, e5, rfl, hR3, hf3, hO3, hx3, hd3⟩
        have HP3 := Lib.hid (HP1.out.mods hm3 (fun k e => by have := HQl.out; omega))
        have HR3 := Lib.hid hR3; have HF3 := Lib.hid hf3
        have HO3 := Lib.hid (Rd.of_owns hO3); have HD3 := Lib.hid hd3; have HX5 := Lib.hid hx3
        have HI3 : Hid (e = 0 → acc.length = 4 ∧ RdS w3 vs (acc.map Prod.fst) ∧ az5 = acc.map Prod.snd ++ [x] ∧ x ≤ B.length) := fun h => by
          obtain ⟨a1, a2, a3⟩ := HI1.out h
          exact ⟨a1, a2.mods hm3 (fun v hv k hk e => by have := HV.out v hv k hk; omega), a3⟩
        obtain ⟨pr, cr, hr⟩ := HO3.out.shape
        subst hr
        clear hm3 hR3 hf3 hO3 hx3 hd3 HP1 HR1 HI1 c0 c1 c2 f1 f2 ac af
        obtain ⟨c0, c1, c2, f1, f2⟩ := HR3.out.cells
        by_cases h5 : e5 = 0
        · subst h5
          obtain ⟨he, hlay⟩ := layF_ok5 HH0.out HT1.out HF3.out rfl
          subst he
          have HLy := Lib.hid hlay
          obtain ⟨a1, a2, a3, a4⟩ := HI3.out rfl
          have HAc : Hid (acc.length = 4 ∧ x ≤ B.length) := ⟨a1, a4⟩
          have HS3 := Lib.hid a2
          subst a3
          have hx5 : x5 ≤ B.length := HX5.out rfl
          have HTs : Hid (secsF 4 1 5 [] B = .ok acc x) := HT1.out.symm
          clear hlay a1 a2 a4 HI3 HT1 HF3 HX5
          obtain ⟨az, haz⟩ : ∃ az, acc.map Prod.snd ++ [x] = az := ⟨_, rfl⟩
          have HAz := Lib.hid haz
          have hsx : secsF 4 1 5 [] B = .ok acc x := HTs.out
          obtain ⟨S, s1, s2, s3, _, s5, s6, _⟩ := secs_inv HBl.out 4 1 5 [] acc x HLen.out hsx
          simp only [List.map_nil, List.nil_append] at s2 s3
          have HAb : Hid (∀ y ∈ az, y < 9223372036854775808) := fun y hy => by
            rw [← haz] at hy
            rcases List.mem_append.1 hy with h | h
            · rw [s3] at h; have := offs_le S 1 5 y h; have := HZ.out; omega
            · simp at h; have := HZ.out; omega
          have HTk : Hid (az.take 4 = acc.map Prod.snd) := by show _ = _; rw [← haz, List.take_append_of_le_length (by rw [List.length_map]; have := HAc.out; omega), List.take_of_length_le (by rw [List.length_map]; have := HAc.out; omega)]
          rw [haz] at HP3
          clear haz hsx s1 s2 s3 s5 s6
          have HCt := Lib.hid (fun W => ref_contents16 az W HP3.out.al HAb.out)
          rw [HTk.out] at HCt
          have HCl := Lib.hid (contents_lt (acc.map Prod.snd))
          have HQd := Lib.hid (strOf_inj HD3.out HCl.out)
          obtain ⟨C, hC⟩ : ∃ C, contents (acc.map Prod.snd) = C := ⟨_, rfl⟩
          have HCe := Lib.hid hC
          rw [hC] at HCt HCl HQd
          have HKA : Hid (∀ w', Below w3.heap.size w3 w' → Blk w' (g + 3) (natI az)) := fun w' hb => HP3.out.ba.of_same (hb.block _ HP3.out.ba.lt)
          have HKR : Hid (∀ w', Below w3.heap.size w3 w' → Rd w' 1 (.slice pr d.length cr) d.length (u8s d)) := fun w' hb => HO3.out.below hb
          have HAl : Hid ((natI az).length = 5) := by show _ = _; rw [natI_length]; exact HP3.out.al
          clear hC
          go_wp2_with fail
          refine wp_region_takeH (fun w' => Below w3.heap.size w3 w') [3, 4] [0, 1, 2, 3, 4, 5] (by kernel_rfl) (by kernel_rfl) (by kernel_rfl) ?_ ?_ ?_
          · intro c a a' w hd h; exact ⟨hd ▸ h.1, h.2⟩
          · exact (Below.refl _ w3).drew
          simp only [taken, List.map_cons, List.map_nil, List.getElem?_cons_succ, List.getElem?_cons_zero, Option.getD_some]
          repeat (first
        | (refine takeH_skip rfl ?_; simp only [Act.put, List.setIfInBounds_toArray, List.set_cons_succ, List.set_cons_zero])
        | (refine takeH_blind rfl rfl ?_; apply Exists.intro; refine ⟨fun w => ?_, ?_⟩; (go_simp; try with_reducible rfl); simp only [Act.put, List.setIfInBounds_toArray, List.set_cons_succ, List.set_cons_zero]))
          refine takeH_read rfl rfl (.string (strOf d)) (fun w' hS => exec_convert _ _ _ rfl rfl ((HKR.out w' hS).conv _ _ _ Tryd.underlying22 Tryd.underlying5 Tryd.underlying9)) ?_
          simp only [Act.put, List.setIfInBounds_toArray, List.set_cons_succ, List.set_cons_zero]
          refine takeH_read rfl rfl (.agg (natI az).toArray) (fun w' hS => exec_loadA arrI _ rfl rfl (HKA.out w' hS) HAl.out) ?_
          simp only [Act.put, List.setIfInBounds_toArray, List.set_cons_succ, List.set_cons_zero]
          refine takeH_call rfl rfl (fun K hK => ?_)
          go_wp2_with fail
          refine (HCt.out w3.drew).mono ?_
          rintro en w4 ⟨r4, rfl, hO4⟩
          have hB4 : Below w3.heap.size w3 w4 := ⟨hO4.bel.os, hO4.bel.tape, hO4.bel.output, hO4.bel.size, hO4.bel.block⟩
          refine hK _ _ hB4 ?_
          clear hK K
          refine takeH_now rfl rfl (.string (strOf C)) (exec_convert _ _ _ rfl rfl (hO4.rd.conv _ _ _ Tryd.underlying22 Tryd.underlying5 Tryd.underlying9)) hB4 ?_
          simp only [Act.put, List.setIfInBounds_toArray, List.set_cons_succ, List.set_cons_zero]
          have HP4 := Lib.hid (HP3.out.below hB4)
          have HS4 := Lib.hid (HS3.out.below hB4)
          have HR4 := Lib.hid (HR3.out.below hB4)
          clear hO4 hB4 HCt HKA HKR HAl HP3 HS3 HR3 HO3 c0 c1 c2 f1 f2
          obtain ⟨c0, c1, c2, f1, f2⟩ := HR4.out.cells
          by_cases hdc : d = C
          · have heq : ((strOf d).toList == (strOf C).toList) = true := by rw [HQd.out]; exact decide_eq_true hdc
            have HLy2 : Hid (layF B = thenO (crcO B x5) fun _ a6 => thenO (tailO B a6) fun _ a7 => .ok (acc.map Prod.fst, az) a7) := by
              show _ = _
              rw [HLy.out, tocO, HCe.out, if_pos hdc, HAz.out]
              rfl
            clear HQd hdc HLy
            generalize strOf d = t1 at *
            generalize strOf C = t2 at *
            repeat (first
        | (refine takeH_skip rfl ?_; simp only [Act.put, List.setIfInBounds_toArray, List.set_cons_succ, List.set_cons_zero])
        | (refine takeH_blind rfl rfl ?_; apply Exists.intro; refine ⟨fun w => ?_, ?_⟩; (go_simp; try with_reducible rfl); simp only [Act.put, List.setIfInBounds_toArray, List.set_cons_succ, List.set_cons_zero]))
            refine takeH_nil ?_
            have HRb : Hid (Rd w4 1 (.slice pb B.length cb) B.length (u8s B)) := HR.out.below HP4.out.bel
            have hcb : B.length ≤ cb := by obtain ⟨_, _, e, _, h, _⟩ := HRb.out; cases e; exact h
            have hcm : (cb : Int) ≤ 9223372036854775807 := by obtain ⟨_, _, e, _, _, h, _⟩ := HRb.out; cases e; unfold maxLen at h; omega
            have hx5i : (x5 : Int) ≤ (B.length : Int) := by omega
            obtain ⟨n2, hn2⟩ : ∃ n2, B.length - x5 = n2 := ⟨_, rfl⟩
            have HN2 := Lib.hid hn2
            have hn2i : (n2 : Int) ≤ 140737488352000 := by have := HZ.out; omega
            clear hn2
            by_cases h4 : n2 < 4
            · have h4i : (n2 : Int) < 4 := by omega
              have HXb : Hid (lay B = (noSecs, noOffs, 3)) := by
                show _ = _
                rw [lay, HLy2.out, crcO, if_pos (by have := HN2.out; omega)]
                rfl
              clear h4
              go_wp2_with (refine wpList_from Tryd.elemU8 _ _ _ x5 _ HRb.out hx5 rfl _ _ rfl rfl rfl ?_; intro p2 c2' h2; rw [HN2.out]; clear h2)
              refine wp_region_takeH (PsK g vs az) [2, 3] [0, 1, 2, 3, 4] (by kernel_rfl) (by kernel_rfl) (by kernel_rfl) ?_ ?_ ?_
              · intro c a a' w hd h; exact ⟨hd ▸ h.1, h.2⟩
              · exact (HP4.out.below (Below.refl _ w4).drew).keep
              simp only [taken, List.map_cons, List.map_nil, List.getElem?_cons_succ, List.getElem?_cons_zero, Option.getD_some]
              refine takeH_read rfl rfl (.agg nil4.toArray) (fun w' h => exec_loadA arrB _ rfl rfl h.bn rfl) ?_
              simp only [Act.put, List.setIfInBounds_toArray, List.set_cons_succ, List.set_cons_zero]
              refine takeH_read rfl rfl (.agg zero5.toArray) (fun w' h => exec_loadA arrI _ rfl rfl h.bz rfl) ?_
              simp only [Act.put, List.setIfInBounds_toArray, List.set_cons_succ, List.set_cons_zero]
              repeat (first
        | (refine takeH_skip rfl ?_; simp only [Act.put, List.setIfInBounds_toArray, List.set_cons_succ, List.set_cons_zero])
        | (refine takeH_blind rfl rfl ?_; apply Exists.intro; refine ⟨fun w => ?_, ?_⟩; (go_simp; try with_reducible rfl); simp only [Act.put, List.setIfInBounds_toArray, List.set_cons_succ, List.set_cons_zero]))
              have HPd := Lib.hid (HP4.out.below (Below.refl _ w4).drew)
              generalize w4.drew = wd at *
              refine takeH_storeA arrB rfl rfl _ _ rfl g rfl nil4 _ rfl HPd.out.b2 rfl rfl (by decide) ?_
              intro wd2 hk2 hm2
              have HK2 := Lib.hid hk2
              have HS2 := Lib.hid (HPd.out.keep.set hm2 (Or.inl rfl))
              have HB2 : Hid (Below w.heap.size w wd2) := HPd.out.bel.trans (hm2.below HPd.out.bel.size (fun k hk e => by have := HPd.out.low; omega))
              have HJ2 := Lib.hid (hm2.blk HPd.out.b3 (fun e => by omega))
              have HLow := Lib.hid HPd.out.low
              refine ⟨(HPd.out.keep.set hm2 (Or.inl rfl)), ?_⟩
              simp only [Act.put, List.setIfInBounds_toArray, List.set_cons_succ, List.set_cons_zero]
              refine takeH_storeA arrI rfl rfl _ _ rfl (g + 1) rfl zero5 _ rfl HJ2.out rfl rfl (by decide) ?_
              intro wd3 hk3 hm3
              have HK3 := Lib.hid hk3
              have HG3 := Lib.hid (hm3.blk HK2.out (fun e => by omega))
              have HB3 : Hid (Below w.heap.size w wd3) := HB2.out.trans (hm3.below HB2.out.size (fun k hk e => by have := HLow.out; omega))
              refine ⟨(HS2.out.set hm3 (Or.inr rfl)), ?_⟩
              simp only [Act.put, List.setIfInBounds_toArray, List.set_cons_succ, List.set_cons_zero]
              clear hk2 hm2 HPd hk3 hm3 HS2 HB2 HJ2 HK2
              repeat (first
        | (refine takeH_skip rfl ?_; simp only [Act.put, List.setIfInBounds_toArray, List.set_cons_succ, List.set_cons_zero])
        | (refine takeH_blind rfl rfl ?_; apply Exists.intro; refine ⟨fun w => ?_, ?_⟩; (go_simp; try with_reducible rfl); simp only [Act.put, List.setIfInBounds_toArray, List.set_cons_succ, List.set_cons_zero]))
              refine takeH_nil ?_
              go_wp2_with fail
              refine bodyPost_ret (resultsA2 (p := 2) (q := 3) (u := 4) arrB arrI (by kernel_rfl) _ g (g + 1) rfl rfl nil4 zero5 HG3.out HK3.out rfl rfl) rfl ?_
              exact gotL_bad HXb.out HB3.out
            · have h4i : ¬ (n2 : Int) < 4 := by omega
              have hup : x5 + 4 ≤ B.length := by have := HN2.out; omega
              have hx5n : (x5 : Int) + 4 ≤ 140737488352004 := by have := HZ.out; omega
              have HT4 : Hid (Rd w4 1 (.slice pb (x5 + 4) cb) (B.take (x5 + 4)).length (u8s (B.take (x5 + 4)))) := by
                show Rd _ _ _ _ _
                have h := HRb.out.upto (x5 + 4) hup
                rw [List.length_take, Nat.min_eq_left hup]
                rw [Nat.mul_one, show (u8s B).take (x5 + 4) = u8s (B.take (x5 + 4)) by simp [u8s, List.map_take]] at h
                exact h
              have HCk := Lib.hid (ref_check _ (B.take (x5 + 4)) w4 HT4.out (fun c hc => HBl.out c (List.mem_of_mem_take hc)) (by rw [List.length_take]; have := HZ.out; omega))
              have HLy3 : Hid (layF B = thenO (if isCrc (B.take (x5 + 4)) = true then Out.ok () (x5 + 4) else .bad 12) fun _ a6 => thenO (tailO B a6) fun _ a7 => .ok (acc.map Prod.fst, az) a7) := by
                show _ = _
                rw [HLy2.out, crcO, if_neg (by have := HN2.out; omega)]
              obtain ⟨ic, hic⟩ : ∃ ic, isCrc (B.take (x5 + 4)) = ic := ⟨_, rfl⟩
              rw [hic] at HCk HLy3
              clear hic HLy2
              go_wp2_with (first
                | (refine wpList_from Tryd.elemU8 _ _ _ x5 _ HRb.out hx5 rfl _ _ rfl rfl rfl ?_; intro p2 c2' h2; rw [HN2.out] at h2 ⊢; rw [Nat.mul_one, show (u8s B).drop x5 = u8s (B.drop x5) by simp [u8s, List.map_drop]] at h2; have HR2 := Lib.hid h2; clear h2)
                | (refine wpList_upto Tryd.elemU8 w4 pb B.length cb (x5 + 4) hup hcb rfl _ _ rfl rfl rfl ?_))
              refine HCk.out.mono ?_
              rintro en w5 ⟨rfl, hB5⟩
              have HP5 := Lib.hid (HP4.out.below hB5)
              have HS5 := Lib.hid (HS4.out.below hB5)
              have HR5 := Lib.hid (HR2.out.below hB5)
              clear hB5 HCk HP4 HS4 HR2 HR4 HRb HT4 c0 c1 c2 f1 f2
              cases ic with
              | false =>
                have HXb : Hid (lay B = (noSecs, noOffs, 12)) := by
                  show _ = _
                  rw [lay, HLy3.out]
                  rfl
                clear HLy3
                go_wp2_with fail
                refine wp_region_takeH (PsK g vs az) [2, 3] [0, 1, 2, 3, 4] (by kernel_rfl) (by kernel_rfl) (by kernel_rfl) ?_ ?_ ?_
                · intro c a a' w hd h; exact ⟨hd ▸ h.1, h.2⟩
                · exact (HP5.out.below (Below.refl _ w5).drew).keep
                simp only [taken, List.map_cons, List.map_nil, List.getElem?_cons_succ, List.getElem?_cons_zero, Option.getD_some]
                refine takeH_read rfl rfl (.agg nil4.toArray) (fun w' h => exec_loadA arrB _ rfl rfl h.bn rfl) ?_
                simp only [Act.put, List.setIfInBounds_toArray, List.set_cons_succ, List.set_cons_zero]
                refine takeH_read rfl rfl (.agg zero5.toArray) (fun w' h => exec_loadA arrI _ rfl rfl h.bz rfl) ?_
                simp only [Act.put, List.setIfInBounds_toArray, List.set_cons_succ, List.set_cons_zero]
                repeat (first
        | (refine takeH_skip rfl ?_; simp only [Act.put, List.setIfInBounds_toArray, List.set_cons_succ, List.set_cons_zero])
        | (refine takeH_blind rfl rfl ?_; apply Exists.intro; refine ⟨fun w => ?_, ?_⟩; (go_simp; try with_reducible rfl); simp only [Act.put, List.setIfInBounds_toArray, List.set_cons_succ, List.set_cons_zero]))
                have HPd := Lib.hid (HP5.out.below (Below.refl _ w5).drew)
                generalize w5.drew = wd at *
                refine takeH_storeA arrB rfl rfl _ _ rfl g rfl nil4 _ rfl HPd.out.b2 rfl rfl (by decide) ?_
                intro wd2 hk2 hm2
                have HK2 := Lib.hid hk2
                have HS2 := Lib.hid (HPd.out.keep.set hm2 (Or.inl rfl))
                have HB2 : Hid (Below w.heap.size w wd2) := HPd.out.bel.trans (hm2.below HPd.out.bel.size (fun k hk e => by have := HPd.out.low; omega))
                have HJ2 := Lib.hid (hm2.blk HPd.out.b3 (fun e => by omega))
                have HLow := Lib.hid HPd.out.low
                refine ⟨(HPd.out.keep.set hm2 (Or.inl rfl)), ?_⟩
                simp only [Act.put, List.setIfInBounds_toArray, List.set_cons_succ, List.set_cons_zero]
                refine takeH_storeA arrI rfl rfl _ _ rfl (g + 1) rfl zero5 _ rfl HJ2.out rfl rfl (by decide) ?_
                intro wd3 hk3 hm3
                have HK3 := Lib.hid hk3
                have HG3 := Lib.hid (hm3.blk HK2.out (fun e => by omega))
                have HB3 : Hid (Below w.heap.size w wd3) := HB2.out.trans (hm3.below HB2.out.size (fun k hk e => by have := HLow.out; omega))
                refine ⟨(HS2.out.set hm3 (Or.inr rfl)), ?_⟩
                simp only [Act.put, List.setIfInBounds_toArray, List.set_cons_succ, List.set_cons_zero]
                clear hk2 hm2 HPd hk3 hm3 HS2 HB2 HJ2 HK2
                repeat (first
        | (refine takeH_skip rfl ?_; simp only [Act.put, List.setIfInBounds_toArray, List.set_cons_succ, List.set_cons_zero])
        | (refine takeH_blind rfl rfl ?_; apply Exists.intro; refine ⟨fun w => ?_, ?_⟩; (go_simp; try with_reducible rfl); simp only [Act.put, List.setIfInBounds_toArray, List.set_cons_succ, List.set_cons_zero]))
                refine takeH_nil ?_
                go_wp2_with fail
                refine bodyPost_ret (resultsA2 (p := 2) (q := 3) (u := 4) arrB arrI (by kernel_rfl) _ g (g + 1) rfl rfl nil4 zero5 HG3.out HK3.out rfl rfl) rfl ?_
                exact gotL_bad HXb.out HB3.out
              | true =>
                have HLy4 : Hid (layF B = thenO (tailO B (x5 + 4)) fun _ a7 => .ok (acc.map Prod.fst, az) a7) := by
                  show _ = _
                  rw [HLy3.out]
                  rfl
                clear HLy3
                have hge4 : 4 ≤ n2 := by omega
                go_wp2_with (refine wpList_from Tryd.elemU8 _ _ _ 4 _ HR5.out hge4 rfl _ _ rfl rfl rfl ?_; intro p6 c6 h6)
                have HR6 : Hid (Rd w5 1 (.slice p6 (n2 - 4) c6) (B.drop (x5 + 4)).length (u8s (B.drop (x5 + 4)))) := by
                  show Rd _ _ _ _ _
                  have h := h6
                  rw [Nat.mul_one, show (u8s (B.drop x5)).drop 4 = u8s (B.drop (x5 + 4)) by simp [u8s, List.map_drop, List.drop_drop]] at h
                  rw [List.length_drop, show B.length - (x5 + 4) = n2 - 4 by have := HN2.out; omega]
                  exact h
                have HLi := Lib.hid (ref_literal16 _ (B.drop (x5 + 4)) ⟨#[75, 66, 83, 84]⟩ w5 HR6.out (fun c hc => HBl.out c (List.mem_of_mem_drop hc)) (by decide))
                rw [litT] at HLi
                have HLy5 : Hid (layF B = thenO (if litE (B.drop (x5 + 4)) tailL = 0 then Out.ok () (x5 + 4 + 4) else .bad (litE (B.drop (x5 + 4)) tailL)) fun _ a7 => .ok (acc.map Prod.fst, az) a7) := HLy4.out
                obtain ⟨el, hel⟩ : ∃ el, litE (B.drop (x5 + 4)) tailL = el := ⟨_, rfl⟩
                rw [hel] at HLi HLy5
                clear h6 hel HLy4
                go_wp2_with fail
                refine HLi.out.mono ?_
                rintro en w6 ⟨rfl, k6, hw6⟩
                have hB6 : Below w5.heap.size w5 w6 := by rw [hw6]; exact (Mods.drewN (fun _ => False) w5 k6).below (Nat.le_refl _) (fun _ _ e => e)
                have HP6 := Lib.hid (HP5.out.below hB6)
                have HS6 := Lib.hid (HS5.out.below hB6)
                clear hB6 hw6 HLi HP5 HS5 HR5 HR6
                clear hge4 hx5n hx5i hx5 hup hcb hcm h4i h4 hbm hi him hlt hlt'
                by_cases he0 : el = 0
                · subst he0
                  by_cases h8 : 8 < n2
                  · have h8i : (8 : Int) < (n2 : Int) := by omega
                    have HXb : Hid (lay B = (noSecs, noOffs, 4)) := by
                      show _ = _
                      rw [lay, HLy5.out]
                      simp only [if_true, thenO]
                      rw [if_pos (by have := HN2.out; omega)]
                    clear h8
                    go_wp2_with fail
                    refine wp_region_takeH (PsK g vs az) [3, 4] [0, 1, 2, 3, 4, 5] (by kernel_rfl) (by kernel_rfl) (by kernel_rfl) ?_ ?_ ?_
                    · intro c a a' w hd h; exact ⟨hd ▸ h.1, h.2⟩
                    · exact (HP6.out.below (Below.refl _ w6).drew).keep
                    simp only [taken, List.map_cons, List.map_nil, List.getElem?_cons_succ, List.getElem?_cons_zero, Option.getD_some]
                    refine takeH_read rfl rfl (.agg nil4.toArray) (fun w' h => exec_loadA arrB _ rfl rfl h.bn rfl) ?_
                    simp only [Act.put, List.setIfInBounds_toArray, List.set_cons_succ, List.set_cons_zero]
                    refine takeH_read rfl rfl (.agg zero5.toArray) (fun w' h => exec_loadA arrI _ rfl rfl h.bz rfl) ?_
                    simp only [Act.put, List.setIfInBounds_toArray, List.set_cons_succ, List.set_cons_zero]
                    repeat (first
        | (refine takeH_skip rfl ?_; simp only [Act.put, List.setIfInBounds_toArray, List.set_cons_succ, List.set_cons_zero])
        | (refine takeH_blind rfl rfl ?_; apply Exists.intro; refine ⟨fun w => ?_, ?_⟩; (go_simp; try with_reducible rfl); simp only [Act.put, List.setIfInBounds_toArray, List.set_cons_succ, List.set_cons_zero]))
                    have HPd := Lib.hid (HP6.out.below (Below.refl _ w6).drew)
                    generalize w6.drew = wd at *
                    refine takeH_storeA arrB rfl rfl _ _ rfl g rfl nil4 _ rfl HPd.out.b2 rfl rfl (by decide) ?_
                    intro wd2 hk2 hm2
                    have HK2 := Lib.hid hk2
                    have HS2 := Lib.hid (HPd.out.keep.set hm2 (Or.inl rfl))
                    have HB2 : Hid (Below w.heap.size w wd2) := HPd.out.bel.trans (hm2.below HPd.out.bel.size (fun k hk e => by have := HPd.out.low; omega))
                    have HJ2 := Lib.hid (hm2.blk HPd.out.b3 (fun e => by omega))
                    have HLow := Lib.hid HPd.out.low
                    refine ⟨(HPd.out.keep.set hm2 (Or.inl rfl)), ?_⟩
                    simp only [Act.put, List.setIfInBounds_toArray, List.set_cons_succ, List.set_cons_zero]
                    refine takeH_storeA arrI rfl rfl _ _ rfl (g + 1) rfl zero5 _ rfl HJ2.out rfl rfl (by decide) ?_
                    intro wd3 hk3 hm3
                    have HK3 := Lib.hid hk3
                    have HG3 := Lib.hid (hm3.blk HK2.out (fun e => by omega))
                    have HB3 : Hid (Below w.heap.size w wd3) := HB2.out.trans (hm3.below HB2.out.size (fun k hk e => by have := HLow.out; omega))
                    refine ⟨(HS2.out.set hm3 (Or.inr rfl)), ?_⟩
                    simp only [Act.put, List.setIfInBounds_toArray, List.set_cons_succ, List.set_cons_zero]
                    clear hk2 hm2 HPd hk3 hm3 HS2 HB2 HJ2 HK2
                    repeat (first
        | (refine takeH_skip rfl ?_; simp only [Act.put, List.setIfInBounds_toArray, List.set_cons_succ, List.set_cons_zero])
        | (refine takeH_blind rfl rfl ?_; apply Exists.intro; refine ⟨fun w => ?_, ?_⟩; (go_simp; try with_reducible rfl); simp only [Act.put, List.setIfInBounds_toArray, List.set_cons_succ, List.set_cons_zero]))
                    refine takeH_nil ?_
                    go_wp2_with fail
                    refine bodyPost_ret (resultsA2 (p := 2) (q := 3) (u := 4) arrB arrI (by kernel_rfl) _ g (g + 1) rfl rfl nil4 zero5 HG3.out HK3.out rfl rfl) rfl ?_
                    exact gotL_bad HXb.out HB3.out
                  · have h8i : ¬ (8 : Int) < (n2 : Int) := by omega
                    have HXb : Hid (lay B = (acc.map Prod.fst, az, 0)) := by
                      show _ = _
                      rw [lay, HLy5.out]
                      simp only [if_true, thenO]
                      rw [if_neg (by have := HN2.out; omega)]
                    clear h8
                    go_wp2_with fail
                    refine wp_region_takeH (PsK g vs az) [2, 3] [0, 1, 2, 3, 4] (by kernel_rfl) (by kernel_rfl) (by kernel_rfl) ?_ ?_ ?_
                    · intro c a a' w hd h; exact ⟨hd ▸ h.1, h.2⟩
                    · exact (HP6.out.below (Below.refl _ w6).drew).keep
                    simp only [taken, List.map_cons, List.map_nil, List.getElem?_cons_succ, List.getElem?_cons_zero, Option.getD_some]
                    refine takeH_read rfl rfl (.agg vs.toArray) (fun w' h => exec_loadA arrB _ rfl rfl h.bs HP6.out.vl) ?_
                    simp only [Act.put, List.setIfInBounds_toArray, List.set_cons_succ, List.set_cons_zero]
                    refine takeH_read rfl rfl (.agg (natI az).toArray) (fun w' h => exec_loadA arrI _ rfl rfl h.ba (by rw [natI_length]; exact HP6.out.al)) ?_
                    simp only [Act.put, List.setIfInBounds_toArray, List.set_cons_succ, List.set_cons_zero]
                    repeat (first
        | (refine takeH_skip rfl ?_; simp only [Act.put, List.setIfInBounds_toArray, List.set_cons_succ, List.set_cons_zero])
        | (refine takeH_blind rfl rfl ?_; apply Exists.intro; refine ⟨fun w => ?_, ?_⟩; (go_simp; try with_reducible rfl); simp only [Act.put, List.setIfInBounds_toArray, List.set_cons_succ, List.set_cons_zero]))
                    have HPd := Lib.hid (HP6.out.below (Below.refl _ w6).drew)
                    have HSd := Lib.hid (HS6.out.below (Below.refl _ w6).drew)
                    generalize w6.drew = wd at *
                    refine takeH_storeA arrB rfl rfl _ _ rfl g rfl vs nil4 rfl HPd.out.b2 rfl HPd.out.vl HPd.out.vo ?_
                    intro wd2 hk2 hm2
                    have HK2 := Lib.hid hk2
                    have HS2 := Lib.hid (HPd.out.keep.set hm2 (Or.inl rfl))
                    have HB2 : Hid (Below w.heap.size w wd2) := HPd.out.bel.trans (hm2.below HPd.out.bel.size (fun k hk e => by have := HPd.out.low; omega))
                    have HJ2 := Lib.hid (hm2.blk HPd.out.b3 (fun e => by omega))
                    have HLow := Lib.hid HPd.out.low
                    have HSd2 := Lib.hid (HSd.out.mods hm2 (fun v hv k hk e => by have := HV.out v hv k hk; have := HQl.out; omega))
                    refine ⟨HS2.out, ?_⟩
                    simp only [Act.put, List.setIfInBounds_toArray, List.set_cons_succ, List.set_cons_zero]
                    refine takeH_storeA arrI rfl rfl _ _ rfl (g + 1) rfl (natI az) zero5 rfl HJ2.out rfl (by rw [natI_length]; exact HPd.out.al) (one_natI az) ?_
                    intro wd3 hk3 hm3
                    have HK3 := Lib.hid hk3
                    have HG3 := Lib.hid (hm3.blk HK2.out (fun e => by omega))
                    have HB3 : Hid (Below w.heap.size w wd3) := HB2.out.trans (hm3.below HB2.out.size (fun k hk e => by have := HLow.out; omega))
                    have HSd3 := Lib.hid (HSd2.out.mods hm3 (fun v hv k hk e => by have := HV.out v hv k hk; have := HQl.out; omega))
                    have HVl4 := Lib.hid HPd.out.vl
                    have HAl5 : Hid ((natI az).length = 5) := by show _ = _; rw [natI_length]; exact HPd.out.al
                    refine ⟨HS2.out.set hm3 (Or.inr rfl), ?_⟩
                    simp only [Act.put, List.setIfInBounds_toArray, List.set_cons_succ, List.set_cons_zero]
                    clear hk2 hm2 HPd hk3 hm3 HS2 HB2 HJ2 HK2 HSd HSd2
                    repeat (first
        | (refine takeH_skip rfl ?_; simp only [Act.put, List.setIfInBounds_toArray, List.set_cons_succ, List.set_cons_zero])
        | (refine takeH_blind rfl rfl ?_; apply Exists.intro; refine ⟨fun w => ?_, ?_⟩; (go_simp; try with_reducible rfl); simp only [Act.put, List.setIfInBounds_toArray, List.set_cons_succ, List.set_cons_zero]))
                    refine takeH_nil ?_
                    go_wp2_with fail
                    refine bodyPost_ret (resultsA2 (p := 2) (q := 3) (u := 4) arrB arrI (by kernel_rfl) _ g (g + 1) rfl rfl vs (natI az) HG3.out HK3.out HVl4.out HAl5.out) rfl ?_
                    exact ⟨vs, by rw [HXb.out]; rfl, by rw [HXb.out]; exact HSd3.out, HB3.out⟩
                · have hei : ¬ (el : Int) = 0 := by omega
                  have heb : ((el : Int) == 0) = false := by rw [beq_eq_false_iff_ne]; exact hei
                  have HXb : Hid (lay B = (noSecs, noOffs, el)) := by
                    show _ = _
                    rw [lay, HLy5.out, if_neg he0]
                    rfl
                  clear he0
                  go_wp2_with fail
                  refine wp_region_takeH (PsK g vs az) [3, 4] [0, 1, 2, 3, 4, 5] (by kernel_rfl) (by kernel_rfl) (by kernel_rfl) ?_ ?_ ?_
                  · intro c a a' w hd h; exact ⟨hd ▸ h.1, h.2⟩
                  · exact (HP6.out.below (Below.refl _ w6).drew).keep
                  simp only [taken, List.map_cons, List.map_nil, List.getElem?_cons_succ, List.getElem?_cons_zero, Option.getD_some]
                  refine takeH_read rfl rfl (.agg nil4.toArray) (fun w' h => exec_loadA arrB _ rfl rfl h.bn rfl) ?_
                  simp only [Act.put, List.setIfInBounds_toArray, List.set_cons_succ, List.set_cons_zero]
                  refine takeH_read rfl rfl (.agg zero5.toArray) (fun w' h => exec_loadA arrI _ rfl rfl h.bz rfl) ?_
                  simp only [Act.put, List.setIfInBounds_toArray, List.set_cons_succ, List.set_cons_zero]
                  repeat (first
        | (refine takeH_skip rfl ?_; simp only [Act.put, List.setIfInBounds_toArray, List.set_cons_succ, List.set_cons_zero])
        | (refine takeH_blind rfl rfl ?_; apply Exists.intro; refine ⟨fun w => ?_, ?_⟩; (go_simp; try with_reducible rfl); simp only [Act.put, List.setIfInBounds_toArray, List.set_cons_succ, List.set_cons_zero]))
                  have HPd := Lib.hid (HP6.out.below (Below.refl _ w6).drew)
                  generalize w6.drew = wd at *
                  refine takeH_storeA arrB rfl rfl _ _ rfl g rfl nil4 _ rfl HPd.out.b2 rfl rfl (by decide) ?_
                  intro wd2 hk2 hm2
                  have HK2 := Lib.hid hk2
                  have HS2 := Lib.hid (HPd.out.keep.set hm2 (Or.inl rfl))
                  have HB2 : Hid (Below w.heap.size w wd2) := HPd.out.bel.trans (hm2.below HPd.out.bel.size (fun k hk e => by have := HPd.out.low; omega))
                  have HJ2 := Lib.hid (hm2.blk HPd.out.b3 (fun e => by omega))
                  have HLow := Lib.hid HPd.out.low
                  refine ⟨(HPd.out.keep.set hm2 (Or.inl rfl)), ?_⟩
                  simp only [Act.put, List.setIfInBounds_toArray, List.set_cons_succ, List.set_cons_zero]
                  refine takeH_storeA arrI rfl rfl _ _ rfl (g + 1) rfl zero5 _ rfl HJ2.out rfl rfl (by decide) ?_
                  intro wd3 hk3 hm3
                  have HK3 := Lib.hid hk3
                  have HG3 := Lib.hid (hm3.blk HK2.out (fun e => by omega))
                  have HB3 : Hid (Below w.heap.size w wd3) := HB2.out.trans (hm3.below HB2.out.size (fun k hk e => by have := HLow.out; omega))
                  refine ⟨(HS2.out.set hm3 (Or.inr rfl)), ?_⟩
                  simp only [Act.put, List.setIfInBounds_toArray, List.set_cons_succ, List.set_cons_zero]
                  clear hk2 hm2 HPd hk3 hm3 HS2 HB2 HJ2 HK2
                  repeat (first
        | (refine takeH_skip rfl ?_; simp only [Act.put, List.setIfInBounds_toArray, List.set_cons_succ, List.set_cons_zero])
        | (refine takeH_blind rfl rfl ?_; apply Exists.intro; refine ⟨fun w => ?_, ?_⟩; (go_simp; try with_reducible rfl); simp only [Act.put, List.setIfInBounds_toArray, List.set_cons_succ, List.set_cons_zero]))
                  refine takeH_nil ?_
                  go_wp2_with fail
                  refine bodyPost_ret (resultsA2 (p := 2) (q := 3) (u := 4) arrB arrI (by kernel_rfl) _ g (g + 1) rfl rfl nil4 zero5 HG3.out HK3.out rfl rfl) rfl ?_
                  exact gotL_bad HXb.out HB3.out
          · have heq : ((strOf d).toList == (strOf C).toList) = false := by rw [HQd.out]; exact decide_eq_false hdc
            have HXb : Hid (lay B = (noSecs, noOffs, 13)) := by
              show _ = _
              rw [lay, HLy.out, tocO, HCe.out, if_neg hdc]
              rfl
            clear HQd hdc
            generalize strOf d = t1 at *
            generalize strOf C = t2 at *
            repeat (first
        | (refine takeH_skip rfl ?_; simp only [Act.put, List.setIfInBounds_toArray, List.set_cons_succ, List.set_cons_zero])
        | (refine takeH_blind rfl rfl ?_; apply Exists.intro; refine ⟨fun w => ?_, ?_⟩; (go_simp; try with_reducible rfl); simp only [Act.put, List.setIfInBounds_toArray, List.set_cons_succ, List.set_cons_zero]))
            refine takeH_nil ?_
            go_wp2_with fail
            refine wp_region_takeH (PsK g vs az) [2, 3] [0, 1, 2, 3, 4] (by kernel_rfl) (by kernel_rfl) (by kernel_rfl) ?_ ?_ ?_
            · intro c a a' w hd h; exact ⟨hd ▸ h.1, h.2⟩
            · exact (HP4.out.below (Below.refl _ w4).drew).keep
            simp only [taken, List.map_cons, List.map_nil, List.getElem?_cons_succ, List.getElem?_cons_zero, Option.getD_some]
            refine takeH_read rfl rfl (.agg nil4.toArray) (fun w' h => exec_loadA arrB _ rfl rfl h.bn rfl) ?_
            simp only [Act.put, List.setIfInBounds_toArray, List.set_cons_succ, List.set_cons_zero]
            refine takeH_read rfl rfl (.agg zero5.toArray) (fun w' h => exec_loadA arrI _ rfl rfl h.bz rfl) ?_
            simp only [Act.put, List.setIfInBounds_toArray, List.set_cons_succ, List.set_cons_zero]
            repeat (first
        | (refine takeH_skip rfl ?_; simp only [Act.put, List.setIfInBounds_toArray, List.set_cons_succ, List.set_cons_zero])
        | (refine takeH_blind rfl rfl ?_; apply Exists.intro; refine ⟨fun w => ?_, ?_⟩; (go_simp; try with_reducible rfl); simp only [Act.put, List.setIfInBounds_toArray, List.set_cons_succ, List.set_cons_zero]))
            have HPd := Lib.hid (HP4.out.below (Below.refl _ w4).drew)
            generalize w4.drew = wd at *
            refine takeH_storeA arrB rfl rfl _ _ rfl g rfl nil4 _ rfl HPd.out.b2 rfl rfl (by decide) ?_
            intro wd2 hk2 hm2
            have HK2 := Lib.hid hk2
            have HS2 := Lib.hid (HPd.out.keep.set hm2 (Or.inl rfl))
            have HB2 : Hid (Below w.heap.size w wd2) := HPd.out.bel.trans (hm2.below HPd.out.bel.size (fun k hk e => by have := HPd.out.low; omega))
            have HJ2 := Lib.hid (hm2.blk HPd.out.b3 (fun e => by omega))
            have HLow := Lib.hid HPd.out.low
            refine ⟨(HPd.out.keep.set hm2 (Or.inl rfl)), ?_⟩
            simp only [Act.put, List.setIfInBounds_toArray, List.set_cons_succ, List.set_cons_zero]
            refine takeH_storeA arrI rfl rfl _ _ rfl (g + 1) rfl zero5 _ rfl HJ2.out rfl rfl (by decide) ?_
            intro wd3 hk3 hm3
            have HK3 := Lib.hid hk3
            have HG3 := Lib.hid (hm3.blk HK2.out (fun e => by omega))
            have HB3 : Hid (Below w.heap.size w wd3) := HB2.out.trans (hm3.below HB2.out.size (fun k hk e => by have := HLow.out; omega))
            refine ⟨(HS2.out.set hm3 (Or.inr rfl)), ?_⟩
            simp only [Act.put, List.setIfInBounds_toArray, List.set_cons_succ, List.set_cons_zero]
            clear hk2 hm2 HPd hk3 hm3 HS2 HB2 HJ2 HK2
            repeat (first
        | (refine takeH_skip rfl ?_; simp only [Act.put, List.setIfInBounds_toArray, List.set_cons_succ, List.set_cons_zero])
        | (refine takeH_blind rfl rfl ?_; apply Exists.intro; refine ⟨fun w => ?_, ?_⟩; (go_simp; try with_reducible rfl); simp only [Act.put, List.setIfInBounds_toArray, List.set_cons_succ, List.set_cons_zero]))
            refine takeH_nil ?_
            go_wp2_with fail
            refine bodyPost_ret (resultsA2 (p := 2) (q := 3) (u := 4) arrB arrI (by kernel_rfl) _ g (g + 1) rfl rfl nil4 zero5 HG3.out HK3.out rfl rfl) rfl ?_
            exact gotL_bad HXb.out HB3.out
        · have h5b : ((e5 : Int) == 0) = false := by rw [beq_eq_false_iff_ne]; omega
          have hlay := layF_bad5 HH0.out HT1.out HF3.out h5
          have HXb : Hid (lay B = (noSecs, noOffs, e5)) := by show _ = _; rw [lay, hlay]
          clear hlay h5
          go_wp2_with fail
          obtain ⟨az, haz⟩ : ∃ az, az5 = az := ⟨_, rfl⟩
          rw [haz] at HP3
          clear haz
          refine wp_region_takeH (fun w' => PsK g vs az w' ∧ w'.cell? ⟨q, 2, none⟩ = some (.int .i64 (e5 : Int))) [6, 7] [0, 1, 2, 3, 4, 5, 6, 7, 8] (by kernel_rfl) (by kernel_rfl) (by kernel_rfl) ?_ ?_ ?_
          · intro c a a' w hd h; exact ⟨hd ▸ h.1, h.2⟩
          · exact ⟨(HP3.out.below (Below.refl _ w3).drew).keep, c2⟩
          simp only [taken, List.map_cons, List.map_nil, List.getElem?_cons_succ, List.getElem?_cons_zero, Option.getD_some]
          refine takeH_read rfl rfl (.agg nil4.toArray) (fun w' h => exec_loadA arrB _ rfl rfl h.1.bn rfl) ?_
          simp only [Act.put, List.setIfInBounds_toArray, List.set_cons_succ, List.set_cons_zero]
          refine takeH_read rfl rfl (.agg zero5.toArray) (fun w' h => exec_loadA arrI _ rfl rfl h.1.bz rfl) ?_
          simp only [Act.put, List.setIfInBounds_toArray, List.set_cons_succ, List.set_cons_zero]
          have HC : Hid (∀ w', (PsK g vs az w' ∧ w'.cell? ⟨q, 2, none⟩ = some (.int .i64 (e5 : Int))) → w'.cell? ⟨q, 2, none⟩ = some (.int .i64 (e5 : Int)) ∧ True ∧ True) := fun w' h => ⟨h.2, trivial, trivial⟩
          repeat (first
        | (refine takeH_skip rfl ?_; simp only [Act.put, List.setIfInBounds_toArray, List.set_cons_succ, List.set_cons_zero])
        | (refine takeH_blind rfl rfl ?_; apply Exists.intro; refine ⟨fun w => ?_, ?_⟩; (go_simp; try with_reducible rfl); simp only [Act.put, List.setIfInBounds_toArray, List.set_cons_succ, List.set_cons_zero])
        | (refine takeH_reads rfl rfl ?_; apply Exists.intro; refine ⟨fun w' hS => ?_, ?_⟩; (obtain ⟨d0, d1, d2⟩ := HC.out w' hS; go_simp; try with_reducible rfl); simp only [Act.put, List.setIfInBounds_toArray, List.set_cons_succ, List.set_cons_zero]))
          have HC2 : Hid (w3.drew.cell? ⟨q, 2, none⟩ = some (.int .i64 (e5 : Int))) := c2
          have HPd := Lib.hid (HP3.out.below (Below.refl _ w3).drew)
          generalize w3.drew = wd at *
          refine takeH_storeA arrB rfl rfl _ _ rfl g rfl nil4 _ rfl HPd.out.b2 rfl rfl (by decide) ?_
          intro wd2 hk2 hm2
          have HK2 := Lib.hid hk2
          have HS2 := Lib.hid (HPd.out.keep.set hm2 (Or.inl rfl))
          have HB2 : Hid (Below w.heap.size w wd2) := HPd.out.bel.trans (hm2.below HPd.out.bel.size (fun k hk e => by have := HPd.out.low; omega))
          have HJ2 := Lib.hid (hm2.blk HPd.out.b3 (fun e => by omega))
          have HLow := Lib.hid HPd.out.low
          refine ⟨⟨(HPd.out.keep.set hm2 (Or.inl rfl)), (hm2.cell HC2.out (fun e => by have h : q = g := e; have := HQl.out; omega))⟩, ?_⟩
          simp only [Act.put, List.setIfInBounds_toArray, List.set_cons_succ, List.set_cons_zero]
          refine takeH_storeA arrI rfl rfl _ _ rfl (g + 1) rfl zero5 _ rfl HJ2.out rfl rfl (by decide) ?_
          intro wd3 hk3 hm3
          have HK3 := Lib.hid hk3
          have HG3 := Lib.hid (hm3.blk HK2.out (fun e => by omega))
          have HB3 : Hid (Below w.heap.size w wd3) := HB2.out.trans (hm3.below HB2.out.size (fun k hk e => by have := HLow.out; omega))
          refine ⟨⟨(HS2.out.set hm3 (Or.inr rfl)), (hm3.cell (hm2.cell HC2.out (fun e => by have h : q = g := e; have := HQl.out; omega)) (fun e => by have h : q = g + 1 := e; have := HQl.out; omega))⟩, ?_⟩
          simp only [Act.put, List.setIfInBounds_toArray, List.set_cons_succ, List.set_cons_zero]
          clear hk2 hm2 HPd hk3 hm3 HS2 HB2 HJ2 HK2
          repeat (first
        | (refine takeH_skip rfl ?_; simp only [Act.put, List.setIfInBounds_toArray, List.set_cons_succ, List.set_cons_zero])
        | (refine takeH_blind rfl rfl ?_; apply Exists.intro; refine ⟨fun w => ?_, ?_⟩; (go_simp; try with_reducible rfl); simp only [Act.put, List.setIfInBounds_toArray, List.set_cons_succ, List.set_cons_zero]))
          refine takeH_nil ?_
          go_wp2_with fail
          refine bodyPost_ret (resultsA2 (p := 2) (q := 3) (u := 4) arrB arrI (by kernel_rfl) _ g (g + 1) rfl rfl nil4 zero5 HG3.out HK3.out rfl rfl) rfl ?_
          exact gotL_bad HXb.out HB3.out
  · have h0i : ¬ (litE B headL : Int) = 0 := by omega
    have h0b : ((litE B headL : Int) == 0) = false := by rw [beq_eq_false_iff_ne]; exact h0i
    have HX : Hid (lay B = (noSecs, noOffs, litE B headL)) := by
      show _ = _
      rw [lay, layF, headO, if_neg h0]; rfl
    obtain ⟨vs, hvs⟩ : ∃ vs, nil4 = vs := ⟨_, rfl⟩
    obtain ⟨az, haz⟩ : ∃ az, [0, 0, 0, 0, 0] = az := ⟨_, rfl⟩
    rw [hvs, haz] at HP7
    clear h0 hvs haz
    generalize litE B headL = e0 at *
    go_wp2_with fail
    refine wp_region_takeH (PsK g vs az) [3, 4] [0, 1, 2, 3, 4, 5] (by kernel_rfl) (by kernel_rfl) (by kernel_rfl) ?_ ?_ ?_
    · intro c a a' w hd h; exact ⟨hd ▸ h.1, h.2⟩
    · exact (HP7.out.below (Below.refl _ w7).drew).keep
    simp only [taken, List.map_cons, List.map_nil, List.getElem?_cons_succ, List.getElem?_cons_zero, Option.getD_some]
    refine takeH_read rfl rfl (.agg nil4.toArray) (fun w' h => exec_loadA arrB _ rfl rfl h.bn rfl) ?_
    simp only [Act.put, List.setIfInBounds_toArray, List.set_cons_succ, List.set_cons_zero]
    refine takeH_read rfl rfl (.agg zero5.toArray) (fun w' h => exec_loadA arrI _ rfl rfl h.bz rfl) ?_
    simp only [Act.put, List.setIfInBounds_toArray, List.set_cons_succ, List.set_cons_zero]
    repeat (first
        | (refine takeH_skip rfl ?_; simp only [Act.put, List.setIfInBounds_toArray, List.set_cons_succ, List.set_cons_zero])
        | (refine takeH_blind rfl rfl ?_; apply Exists.intro; refine ⟨fun w => ?_, ?_⟩; (go_simp; try with_reducible rfl); simp only [Act.put, List.setIfInBounds_toArray, List.set_cons_succ, List.set_cons_zero]))
    have HPd := Lib.hid (HP7.out.below (Below.refl _ w7).drew)
    generalize w7.drew = wd at *
    refine takeH_storeA arrB rfl rfl _ _ rfl g rfl nil4 _ rfl HPd.out.b2 rfl rfl (by decide) ?_
    intro wd2 hk2 hm2
    have HK2 := Lib.hid hk2
    have HS2 := Lib.hid (HPd.out.keep.set hm2 (Or.inl rfl))
    have HB2 : Hid (Below w.heap.size w wd2) := HPd.out.bel.trans (hm2.below HPd.out.bel.size (fun k hk e => by have := HPd.out.low; omega))
    have HJ2 := Lib.hid (hm2.blk HPd.out.b3 (fun e => by omega))
    have HLow := Lib.hid HPd.out.low
    refine ⟨(HPd.out.keep.set hm2 (Or.inl rfl)), ?_⟩
    simp only [Act.put, List.setIfInBounds_toArray, List.set_cons_succ, List.set_cons_zero]
    refine takeH_storeA arrI rfl rfl _ _ rfl (g + 1) rfl zero5 _ rfl HJ2.out rfl rfl (by decide) ?_
    intro wd3 hk3 hm3
    have HK3 := Lib.hid hk3
    have HG3 := Lib.hid (hm3.blk HK2.out (fun e => by omega))
    have HB3 : Hid (Below w.heap.size w wd3) := HB2.out.trans (hm3.below HB2.out.size (fun k hk e => by have := HLow.out; omega))
    refine ⟨(HS2.out.set hm3 (Or.inr rfl)), ?_⟩
    simp only [Act.put, List.setIfInBounds_toArray, List.set_cons_succ, List.set_cons_zero]
    clear hk2 hm2 HPd hk3 hm3 HS2 HB2 HJ2 HK2
    repeat (first
        | (refine takeH_skip rfl ?_; simp only [Act.put, List.setIfInBounds_toArray, List.set_cons_succ, List.set_cons_zero])
        | (refine takeH_blind rfl rfl ?_; apply Exists.intro; refine ⟨fun w => ?_, ?_⟩; (go_simp; try with_reducible rfl); simp only [Act.put, List.setIfInBounds_toArray, List.set_cons_succ, List.set_cons_zero]))
    refine takeH_nil ?_
    go_wp2_with fail
    refine bodyPost_ret (resultsA2 (p := 2) (q := 3) (u := 4) arrB arrI (by kernel_rfl) _ g (g + 1) rfl rfl nil4 zero5 HG3.out HK3.out rfl rfl) rfl ?_
    exact gotL_bad HX.out HB3.out
end Go.Proofs.YtlgphgipfjlbfaaDoor

end

section
/- Layer 16: the reference's Certain. -/
set_option linter.unusedVariables false
set_option linter.unusedSimpArgs false
set_option maxRecDepth 20000
namespace Go.Proofs.YtlgphgipfjlbfaaDoor
open Go Go.RowKit

set_option maxHeartbeats 4000000 in
theorem ref_certain16 (bv : Value) (B : List Nat) (w : World) (h : Rd w 1 bv B.length (u8s B)) (hB : ∀ c ∈ B, c < 256) (hz : B.length ≤ 140737488352000) :
    Calls Tryd.prog 19 #[bv] w fun e w' => e = .returned (.int .i64 (certE B : Int)) ∧ Below w.heap.size w w' := by
  have HR := Lib.hid h; have HBl := Lib.hid hB; have HZ := Lib.hid hz
  have HSh := Lib.hid (lay_shape hB)
  clear h hB hz
  go_enter Tryd.func19, Tryd.ntmps19
  go_wp2_with fail
  refine (ref_parse16 _ B w HR.out HBl.out HZ.out).mono ?_
  rintro en w1 ⟨vs, rfl, hS, hB⟩
  have HS := Lib.hid hS; have HB1 := Lib.hid hB
  have HC : Hid (certE B = if (lay B).2.2 = 3 then 0 else (lay B).2.2) := rfl
  have hvl : vs.length = 4 := by rw [HS.out.len]; exact HSh.out.1
  have hal : (natI (lay B).2.1).length = 5 := by rw [natI_length]; exact HSh.out.2.1
  have HVl := Lib.hid hvl; have HAl := Lib.hid hal
  obtain ⟨ec, hec⟩ : ∃ ec, certE B = ec := ⟨_, rfl⟩
  have HCe := Lib.hid hec
  rw [hec] at HC
  obtain ⟨⟨S, az, e⟩, ho⟩ : ∃ o, lay B = o := ⟨_, rfl⟩
  rw [ho] at HC HS HSh HAl ⊢
  clear hS hB hvl hal hec ho
  by_cases h3 : e = 3
  · subst h3
    have hc0 : ec = 0 := HC.out
    subst hc0
    go_wp2_with (refine wpList_varA2 arrB arrI rfl rfl rfl rfl rfl _ _ rfl rfl _ _ rfl vs (natI az) rfl rfl HVl.out HS.out.one rfl rfl HAl.out (one_natI az) ?_; intro w2 hk hj hb hs; have HB2 : Hid (Below w.heap.size w w2) := HB1.out.trans (hb.mono HB1.out.size); clear hk hj hb hs)
    go_ret
    exact ⟨by rw [HCe.out]; rfl, HB2.out⟩
  · have h3i : ¬ (e : Int) = 3 := by omega
    have h3b : ((e : Int) == 3) = false := by rw [beq_eq_false_iff_ne]; exact h3i
    obtain rfl : ec = e := by have := HC.out; rw [if_neg h3] at this; exact this
    clear h3
    go_wp2_with (refine wpList_varA2 arrB arrI rfl rfl rfl rfl rfl _ _ rfl rfl _ _ rfl vs (natI az) rfl rfl HVl.out HS.out.one rfl rfl HAl.out (one_natI az) ?_; intro w2 hk hj hb hs; have HB2 : Hid (Below w.heap.size w w2) := HB1.out.trans (hb.mono HB1.out.size); clear hk hj hb hs)
    go_ret
    exact ⟨by rw [HCe.out]; rfl, HB2.out⟩
end Go.Proofs.YtlgphgipfjlbfaaDoor

end

section
/- Layer 16: the statements' Large; the reference's Same. -/
set_option linter.unusedVariables false
set_option maxRecDepth 20000
namespace Go.Proofs.YtlgphgipfjlbfaaDoor
open Go Go.RowKit
def sumS (S : List (List Nat)) (i : Nat) : Nat := ((S.take i).map fun d => min d.length 5000).sum
theorem sumS_step {S : List (List Nat)} {i : Nat} {d : List Nat} (h : S[i]? = some d) : sumS S (i + 1) = sumS S i + min d.length 5000 := by
  rw [sumS, List.take_add_one, h, List.map_append, List.sum_append]; simp [sumS]
theorem sumS_le (S : List (List Nat)) : ∀ i, sumS S i ≤ 5000 * i := by
  intro i
  induction i with
  | zero => simp [sumS]
  | succ i ih =>
    by_cases h : i < S.length
    · rw [sumS_step (List.getElem?_eq_getElem h)]; omega
    · have : sumS S (i + 1) = sumS S i := by rw [sumS, sumS, List.take_of_length_le (by omega), List.take_of_length_le (by omega)]
      omega

set_option maxHeartbeats 4000000 in
theorem large16 (vs : List Value) (S : List (List Nat)) (w : World) (h : RdS w vs S) (h4 : S.length = 4) :
    Calls Tryd.prog 9 #[.agg vs.toArray] w fun e w' => (e = .returned (.int .i64 1) ∨ (e = .returned (.int .i64 0) ∧ sumS S 4 ≤ 5000)) ∧ Below w.heap.size w w' := by
  have H := Lib.hid h; have H4 := Lib.hid h4
  have HL4 : Hid (vs.length = 4) := h.len.trans h4
  clear h h4
  go_enter Tryd.func9, Tryd.ntmps9
  go_wp2_with (refine wpList_boxA rfl _ _ rfl vs rfl ?_)
  intro w1 hK hB hS
  have HK := Lib.hid hK; have HB1 := Lib.hid hB; have H1 := Lib.hid (H.out.below hB)
  clear hK hB hS
  go_wp2_with (refine wpList_loadA arrB rfl _ rfl w.heap.size rfl _ HK.out HL4.out ?_)
  go_wp2_with fail
  go_loopw [3, 7] (fun nv iv wr => ∃ (i n : Nat), i ≤ 4 ∧ iv = .int .i64 (i : Int) ∧ nv = .int .i64 (n : Int) ∧ Hid (n = sumS S i) ∧ Hid (wr = w1)) (fun _ iv _ => 4 - (intOf iv).toNat)
  case atStart => exact ⟨0, 0, Nat.zero_le _, rfl, rfl, rfl, rfl⟩
  case round =>
    obtain ⟨i, n, hi, rfl, rfl, HN, HW⟩ := hrel
    obtain rfl : wr = w1 := HW.out
    have him : (i : Int) ≤ 4 := by omega
    by_cases hlt : i < 4
    · have hlt' : (i : Int) < 4 := by omega
      obtain ⟨d, hd⟩ : ∃ d, S[i]? = some d := ⟨_, List.getElem?_eq_getElem (by have := H4.out; omega)⟩
      obtain ⟨p, c, hv, hr⟩ := H1.out.get hd
      have HV := Lib.hid hv
      have HSt := Lib.hid (sumS_step hd)
      have hb := sumS_le S i
      have hnb : (n : Int) ≤ 20000 := by have := HN.out; omega
      clear hd hv hr hb
      by_cases hm : (d.length : Int) ≤ 5000
      · have hmf : (5000 < d.length) = False := eq_false (by omega)
        have HN2 : Hid (n + d.length = sumS S (i + 1)) := by show _ = _; rw [HSt.out, HN.out, Nat.min_eq_left (by omega)]
        go_wp2_with (refine wpList_indexA arrB rfl _ _ rfl vs rfl i rfl hlt _ HV.out ?_)
        go_wp2_with fail
        go_round
        case rel => exact ⟨i + 1, n + d.length, by omega, by go_num, by go_num, HN2.out, trivial⟩
        case measure => simp [intOf]; omega
      · have HN2 : Hid (n + 5000 = sumS S (i + 1)) := by show _ = _; rw [HSt.out, HN.out, Nat.min_eq_right (by omega)]
        have hmf : ((5000 : Int) ≤ (d.length : Int)) = True := eq_true (by omega)
        go_wp2_with (refine wpList_indexA arrB rfl _ _ rfl vs rfl i rfl hlt _ HV.out ?_)
        go_wp2_with fail
        go_round
        case rel => exact ⟨i + 1, n + 5000, by omega, by go_num, by go_num, HN2.out, trivial⟩
        case measure => simp [intOf]; omega
    · have hlt' : ¬ (i : Int) < 4 := by omega
      have hi4 : i = 4 := by omega
      subst hi4
      by_cases hz : (5000 : Int) < (n : Int)
      · go_wp2_with fail
        go_ret
        exact ⟨Or.inl rfl, HB1.out⟩
      · have HX : Hid (sumS S 4 ≤ 5000) := by show _ ≤ _; rw [← HN.out]; omega
        go_wp2_with fail
        go_ret
        exact ⟨Or.inr ⟨rfl, HX.out⟩, HB1.out⟩
end Go.Proofs.YtlgphgipfjlbfaaDoor

end
