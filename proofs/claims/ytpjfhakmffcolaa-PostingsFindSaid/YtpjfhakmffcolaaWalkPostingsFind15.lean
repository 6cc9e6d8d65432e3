/- Layer 15: PostingsFind, walked over the interface. -/
import Derived.Test.YtpjfhakmffcolaaMrg5
import Derived.Test.YtpjfhakmffcolaaMrg7
import Derived.Test.YtpjfhakmffcolaaMrg8
import Derived.Test.YtpjfhakmffcolaaMrg17
import Derived.Test.YtpjfhakmffcolaaMrg9
set_option linter.unusedVariables false
namespace Go.Proofs.Ytpjfhakmffcolaa.postingsFind
open Go Go.RowKit
variable {G : Nat} {T : World → Prop}

/-- Two lists of numbers under way, beside each other. -/
structure TwoI (w wr : World) (a b : List Int) (va vb : Value) : Prop where
  ra : OwnI w wr a va
  rb : OwnI w wr b vb
  off : ∀ k, va.ownBlock = some k → vb.ownBlock ≠ some k
theorem TwoI.below {w wr w1 : World} {a b : List Int} {va vb : Value} (h : TwoI w wr a b va vb) (hb : Below wr.heap.size wr w1) : TwoI w w1 a b va vb := ⟨h.ra.below hb, h.rb.below hb, h.off⟩
theorem TwoI.swap {w wr : World} {a b : List Int} {va vb : Value} (h : TwoI w wr a b va vb) : TwoI w wr b a vb va := ⟨h.rb, h.ra, fun k hk he => h.off k he hk⟩
theorem TwoI.pushA {w wr w1 : World} {a b : List Int} {va vb v1 : Value} {x : Int} (h : TwoI w wr a b va vb) (k : w1.ownsRow 0 3 1 v1 (a.length + 1) (a.map (fun x : Int => Value.int .i64 x) ++ [Value.int .i64 x])) (m : Mods (fun k => va.ownBlock = some k) wr w1) (hf : Fresh wr.heap.size va v1) : TwoI w w1 (a ++ [x]) b v1 vb := by
  refine ⟨h.ra.pushed k m hf, ⟨m.owns h.rb.row (fun j hj he => h.off j he hj), h.rb.bel.trans (m.below h.rb.bel.size (fun j hj e => by have := (h.ra.row.lt j e).1; omega))⟩, fun j hj he => ?_⟩
  rcases hf j hj with f | f
  · exact h.off j f he
  · have := (h.rb.row.lt j he).2; omega
theorem TwoI.pushB {w wr w1 : World} {a b : List Int} {va vb v1 : Value} {x : Int} (h : TwoI w wr a b va vb) (k : w1.ownsRow 0 3 1 v1 (b.length + 1) (b.map (fun x : Int => Value.int .i64 x) ++ [Value.int .i64 x])) (m : Mods (fun k => vb.ownBlock = some k) wr w1) (hf : Fresh wr.heap.size vb v1) : TwoI w w1 a (b ++ [x]) va v1 := (h.swap.pushA k m hf).swap
theorem posN_succ (l : List (List Lab)) (k : Nat) (n : ByteArray) : posN l (k + 1) n = posN l k n ++ if (getL (l.getD k []) n).isSome = true then [(k : Int)] else [] := by
  rw [posN, List.range_succ, List.filter_append, List.map_append]
  by_cases h : (getL (l.getD k []) n).isSome = true
  · rw [if_pos h, List.filter_cons, if_pos h]; rfl
  · rw [if_neg h, List.filter_cons, if_neg h]; rfl
theorem pos_le (l : List (List Lab)) (k : Nat) (x : Lab) : (posTo l k x).length ≤ k := by
  rw [posTo, List.length_map]; exact Nat.le_trans (List.length_filter_le _ _) (by rw [List.length_range]; exact Nat.le_refl _)
theorem posN_le (l : List (List Lab)) (k : Nat) (n : ByteArray) : (posN l k n).length ≤ k := by
  rw [posN, List.length_map]; exact Nat.le_trans (List.length_filter_le _ _) (by rw [List.length_range]; exact Nat.le_refl _)

set_option maxRecDepth 20000 in
set_option maxHeartbeats 16000000 in
theorem walk (I : PoIf G T) (hal : ∀ w, T w → Calls Try.prog 10 #[] w fun e w' => e = .returned (.bool true) ∧ Below w.heap.size w w')
    (w : World) (hT : T w) (lv : Value) (l : List (List Lab)) (okl : ∀ s ∈ l, LabSized s) (hl : RdBL w lv l) (x : Lab) (okx : LabSized [x]) :
    Calls Try.prog 4 #[lv, .agg #[.string x.1, .string x.2]] w fun e w' => e = .returned (.bool true) ∧ Below w.heap.size w w' := by
  obtain ⟨x1, x2⟩ := x
  have HAL := Lib.hid hal; have HSl0 := Lib.hid okl; have HSx := Lib.hid okx
  obtain ⟨w1, hw1⟩ : ∃ w1, w1 = w.alloc (.cells #[.string x1, .string x2] 34) := ⟨_, rfl⟩
  have HW : Hid (w.alloc (.cells #[.string x1, .string x2] 34) = w1) := hw1.symm
  have HB1 : Hid (Below w.heap.size w w1) := by show Below _ _ _; rw [hw1]; exact (Below.refl _ w).alloc (Nat.le_refl _) _
  have HX1 : Hid (Blk w1 w.heap.size [.string x1, .string x2]) := by show Blk _ _ _; rw [hw1]; exact Blk.new w _ _
  have HLl := Lib.hid (hl.below HB1.out)
  have HT1 := Lib.hid (I.below hT HB1.out)
  obtain ⟨pl, cl, hv⟩ := hl.shape
  subst hv
  obtain ⟨bx, hbx⟩ : ∃ bx, w.heap.size = bx := ⟨_, rfl⟩
  have HBx := Lib.hid hbx
  rw [hbx] at HX1
  clear hT hal okl hl okx hw1 hbx
  go_enter Try.func4, Try.ntmps4
  go_wp2_with fail
  rw [HW.out, HBx.out]
  clear HW
  go_wp2_with fail
  refine (norm15 _ l w1 HLl.out HSl0.out).mono ?_
  rintro e w2 ⟨he, hB⟩
  have HB2 := Lib.hid (HB1.out.trans (hB.mono HB1.out.size))
  have HT2 := Lib.hid (I.below HT1.out hB)
  have HX2 : Hid (Blk w2 bx [.string x1, .string x2]) := HX1.out.of_same (hB.block _ HX1.out.lt)
  clear HT1 HLl hB HX1
  rcases he with rfl | ⟨mv, rfl, hs, hN, hP⟩
  · go_wp2_with fail
    refine (HAL.out _ HT2.out).mono ?_
    rintro e wz ⟨rfl, hB⟩
    have HBz := Lib.hid (HB2.out.trans (hB.mono HB2.out.size))
    go_wp2_with fail
    go_ret
    exact ⟨rfl, HBz.out⟩
  · obtain ⟨m, hm⟩ : ∃ m, normsP l = m := ⟨_, rfl⟩
    rw [hm] at hN hP
    have HP := Lib.hid hP
    have R2m := Lib.hid hN.rd
    have HI := Lib.hid (small_idx hP)
    obtain ⟨pm, cm, hv⟩ := R2m.out.shape
    subst hv
    clear hm hN hP
    have d0 : w2.cell? ⟨bx, 0, none⟩ = some (.string x1) := by rw [HX2.out.cell]; rfl
    have d1 : w2.cell? ⟨bx, 1, none⟩ = some (.string x2) := by rw [HX2.out.cell]; rfl
    obtain ⟨w3, hw3⟩ : ∃ w3, w3 = w2.alloc (.cells #[.string x1, .string x2] 34) := ⟨_, rfl⟩
    have HW3 : Hid (w2.alloc (.cells #[.string x1, .string x2] 34) = w3) := hw3.symm
    have hb : Below w2.heap.size w2 w3 := by rw [hw3]; exact (Below.refl _ w2).alloc (Nat.le_refl _) _
    have hk3 : Blk w3 w2.heap.size [.string x1, .string x2] := by rw [hw3]; exact Blk.new w2 _ _
    have HL3 := Lib.hid (large11 _ [(x1, x2)] w3 (Rd.of_blk (n := 1) hk3 rfl (by simp [maxLen])) HSx.out)
    have HB3 := Lib.hid (HB2.out.trans (hb.mono HB2.out.size))
    have HT3 := Lib.hid (I.below HT2.out hb)
    have HX3 : Hid (Blk w3 bx [.string x1, .string x2]) := HX2.out.of_same (hb.block _ HX2.out.lt)
    have R3m := Lib.hid (R2m.out.below hb)
    clear hb hk3 hw3
    go_wp2_with fail
    rw [HW3.out]
    clear HW3 d0 d1 HB2 HT2 HX2 R2m
    try go_wp2_with fail
    refine HL3.out.mono ?_
    rintro e w4 ⟨he, hB⟩
    have HB4 := Lib.hid (HB3.out.trans (hB.mono HB3.out.size))
    have HT4 := Lib.hid (I.below HT3.out hB)
    have HX4 : Hid (Blk w4 bx [.string x1, .string x2]) := HX3.out.of_same (hB.block _ HX3.out.lt)
    have R4m := Lib.hid (R3m.out.below hB)
    clear HB3 HT3 HX3 R3m hB HL3
    rcases he with rfl | ⟨rfl, _, _⟩
    · go_wp2_with fail
      refine (HAL.out _ HT4.out).mono ?_
      rintro e wz ⟨rfl, hB⟩
      have HBz := Lib.hid (HB4.out.trans (hB.mono HB4.out.size))
      go_wp2_with fail
      go_ret
      exact ⟨rfl, HBz.out⟩
    · go_wp2_with fail
      refine (ref_build15 _ m w4 R4m.out (by have := HP.out.flat; omega) (by have := HP.out.len; omega)).mono ?_
      rintro e w5 ⟨r5, rfl, M5, hE, hM⟩
      have HB5 := Lib.hid (HB4.out.trans (hE.bel.mono HB4.out.size))
      have HT5 := Lib.hid (I.below HT4.out hE.bel)
      have HX5 : Hid (Blk w5 bx [.string x1, .string x2]) := HX4.out.of_same (hE.bel.block _ HX4.out.lt)
      have R5m := Lib.hid (R4m.out.below hE.bel)
      have R5 : Hid (RdE w5 r5 (buildP m)) := by show RdE _ _ _; rw [← hM]; exact hE.rd
      obtain ⟨p5, c5, hv⟩ := R5.out.shape
      subst hv
      clear HB4 HT4 HX4 R4m hE hM
      go_wp2_with fail
      refine (prog15 _ _ w5 R5.out (by have := HI.out.ok.len; omega)).mono ?_
      rintro e w6 ⟨r6, rfl, M6, hE, hM⟩
      have HBe := Lib.hid (HB5.out.trans (hE.bel.mono HB5.out.size))
      have HTe := Lib.hid (I.below HT5.out hE.bel)
      have HK : Hid (Blk w6 bx [.string x1, .string x2]) := HX5.out.of_same (hE.bel.block _ HX5.out.lt)
      have HMm := Lib.hid (R5m.out.below hE.bel)
      have HIx : Hid (RdE w6 r6 (buildP m)) := by show RdE _ _ _; rw [← hM]; exact hE.rd
      obtain ⟨p6, c6, hv⟩ := HIx.out.shape
      subst hv
      clear HB5 HT5 HX5 R5m R5 hE hM
      have hmi : (m.length : Int) ≤ 300 := by have := HP.out.len; omega
      go_wp2_with fail
      go_loopw [8, 9, 33] (fun av bv iv wr => ∃ (i : Nat), i ≤ m.length ∧ iv = .int .i64 (i : Int) ∧ Hid (TwoI w6 wr (posTo m i (x1, x2)) (posN m i x1) av bv)) (fun _ _ iv _ => m.length - (intOf iv).toNat)
      case atStart => exact ⟨0, Nat.zero_le _, rfl, ⟨Own1.nil w6, Own1.nil w6, fun k hk => by cases hk⟩⟩
      case round =>
        obtain ⟨i, hi, rfl, HT⟩ := hrel
        have him : (i : Int) ≤ 300 := by omega
        obtain ⟨pa, ca, hv⟩ := HT.out.ra.shape
        subst hv
        obtain ⟨pb, cb, hv⟩ := HT.out.rb.shape
        subst hv
        by_cases hlt : i < m.length
        · have hlt' : (i : Int) < (m.length : Int) := by omega
          obtain ⟨s, hx⟩ : ∃ s, m[i]? = some s := ⟨_, List.getElem?_eq_getElem hlt⟩
          obtain ⟨ba, oa, q1, k1, e, hal⟩ := HMm.out.always hx
          subst e
          have HAl := Lib.hid hal
          have HSl : Hid (s.length ≤ 300) := by show _ ≤ _; have := buildTo_bound hx; have := HP.out.flat; omega
          have hgd : m.getD i [] = s := by rw [List.getD_eq_getElem?_getD, hx]; rfl
          have HPt := Lib.hid (posTo_succ m i (x1, x2))
          have HPn := Lib.hid (posN_succ m i x1)
          rw [hgd] at HPt HPn
          have HLnA : Hid ((posTo m i (x1, x2)).length ≤ 300) := by show _ ≤ _; have := pos_le m i (x1, x2); omega
          have HLnB : Hid ((posN m i x1).length ≤ 300) := by show _ ≤ _; have := posN_le m i x1; omega
          obtain ⟨c0, hrs⟩ := hal wr HT.out.ra.bel
          have HKw : Hid (Blk wr bx [.string x1, .string x2]) := HK.out.of_same (HT.out.ra.bel.block _ HK.out.lt)
          have d0 : wr.cell? ⟨bx, 0, none⟩ = some (.string x1) := by rw [HKw.out.cell]; rfl
          have d1 : wr.cell? ⟨bx, 1, none⟩ = some (.string x2) := by rw [HKw.out.cell]; rfl
          have HCt := Lib.hid (contains_lab (.slice q1 s.length k1) s (x1, x2) wr hrs (by have := HSl.out; omega))
          clear hx hal hgd hrs HKw
          by_cases hc : (x1, x2) ∈ s
          · have HPA : Hid (posTo m (i + 1) (x1, x2) = posTo m i (x1, x2) ++ [(i : Int)]) := by show _ = _; rw [HPt.out, if_pos hc]
            rw [decide_eq_true hc] at HCt
            clear hc
            go_wp2_with fail
            refine HCt.out.mono ?_
            rintro e w4 ⟨rfl, hB⟩
            have HT4 := Lib.hid (HT.out.below hB)
            clear hB d0 d1 c0 HCt HT
            have HOz : Hid (w4.ownsRow 0 3 1 (.slice pa (posTo m i (x1, x2)).length ca) (posTo m i (x1, x2)).length ((posTo m i (x1, x2)).map fun x : Int => Value.int .i64 x)) := HT4.out.ra.base0
            have HLz : Hid (((posTo m i (x1, x2)).length + 1) * 8 ≤ 140737488355328 ∧ (posTo m i (x1, x2)).length + 1 ≤ maxLen) := by show _ ∧ _; have := HLnA.out; unfold maxLen; omega
            go_wp2_with (at_builtin; refine wpList_push elemInt14 w4 #[.int .i64 (i : Int)] _ _ _ HOz.out rfl (by simp [Value.oneCell']) HLz.out rfl _ _ rfl rfl rfl ?_)
            intro vq w5 k1 m1 f1
            have HT5 := Lib.hid (HT4.out.pushA (x := (i : Int)) k1 m1 f1)
            obtain ⟨p5, c5, hvq⟩ := HT5.out.ra.shape
            subst hvq
            clear k1 m1 f1 HOz HLz HT4
            have HBg : Hid (Below w.heap.size w w5) := HBe.out.trans (HT5.out.ra.bel.mono HBe.out.size)
            have HKx : Hid (Blk w5 bx [.string x1, .string x2]) := HK.out.of_same (HT5.out.ra.bel.block _ HK.out.lt)
            have d0 : w5.cell? ⟨bx, 0, none⟩ = some (.string x1) := by rw [HKx.out.cell]; rfl
            have HGt := Lib.hid (ref_get11 (.slice q1 s.length k1) s x1 w5 (HAl.out w5 HT5.out.ra.bel).2 (by have := HSl.out; omega))
            by_cases hg : (getL s x1).isSome = true
            · have HPB : Hid (posN m (i + 1) x1 = posN m i x1 ++ [(i : Int)]) := by show _ = _; rw [HPn.out, if_pos hg]
              obtain ⟨gv, hgv⟩ : ∃ gv, getL s x1 = some gv := Option.isSome_iff_exists.1 hg
              rw [hgv] at HGt
              clear hg hgv
              go_wp2_with fail
              refine HGt.out.mono ?_
              rintro e w7 ⟨he, hB⟩
              obtain rfl : e = .returned (.tuple #[.string gv, .bool true]) := he
              have HT7 := Lib.hid (HT5.out.below hB)
              clear hB d0 HGt HT5 HKx HBg
              have HOz : Hid (w7.ownsRow 0 3 1 (.slice pb (posN m i x1).length cb) (posN m i x1).length ((posN m i x1).map fun x : Int => Value.int .i64 x)) := HT7.out.rb.base0
              have HLz : Hid (((posN m i x1).length + 1) * 8 ≤ 140737488355328 ∧ (posN m i x1).length + 1 ≤ maxLen) := by show _ ∧ _; have := HLnB.out; unfold maxLen; omega
              go_wp2_with (at_builtin; refine wpList_push elemInt14 w7 #[.int .i64 (i : Int)] _ _ _ HOz.out rfl (by simp [Value.oneCell']) HLz.out rfl _ _ rfl rfl rfl ?_)
              intro vq w8 k1 m1 f1
              have HT8 := Lib.hid (HT7.out.pushB (x := (i : Int)) k1 m1 f1)
              obtain ⟨p8, c8, hvq⟩ := HT8.out.rb.shape
              subst hvq
              clear k1 m1 f1 HOz HLz HT7
              go_wp2_with fail
              go_round
              case rel => exact ⟨i + 1, by omega, by go_num, (by show TwoI _ _ _ _ _ _; rw [HPA.out, HPB.out]; have h := HT8.out; first | exact h | simpa [List.length_append] using h)⟩
              case measure => simp [intOf]; omega
            · have HPB : Hid (posN m (i + 1) x1 = posN m i x1) := by show _ = _; rw [HPn.out, if_neg hg, List.append_nil]
              have hgv : getL s x1 = none := by cases h : getL s x1 with
                | none => rfl
                | some y => exact absurd (by rw [h]; rfl) hg
              rw [hgv] at HGt
              clear hg hgv
              go_wp2_with fail
              refine HGt.out.mono ?_
              rintro e w7 ⟨he, hB⟩
              obtain rfl : e = .returned (.tuple #[.string ⟨#[]⟩, .bool false]) := he
              have HT7 := Lib.hid (HT5.out.below hB)
              clear hB d0 HGt HT5 HKx HBg
              go_wp2_with fail
              go_round
              case rel => exact ⟨i + 1, by omega, by go_num, (by show TwoI _ _ _ _ _ _; rw [HPA.out, HPB.out]; have h := HT7.out; first | exact h | simpa [List.length_append] using h)⟩
              case measure => simp [intOf]; omega
          · have HPA : Hid (posTo m (i + 1) (x1, x2) = posTo m i (x1, x2)) := by show _ = _; rw [HPt.out, if_neg hc, List.append_nil]
            rw [decide_eq_false hc] at HCt
            clear hc
            go_wp2_with fail
            refine HCt.out.mono ?_
            rintro e w5 ⟨rfl, hB⟩
            have HT5 := Lib.hid (HT.out.below hB)
            clear hB d0 d1 c0 HCt HT
            have HBg : Hid (Below w.heap.size w w5) := HBe.out.trans (HT5.out.ra.bel.mono HBe.out.size)
            have HKx : Hid (Blk w5 bx [.string x1, .string x2]) := HK.out.of_same (HT5.out.ra.bel.block _ HK.out.lt)
            have d0 : w5.cell? ⟨bx, 0, none⟩ = some (.string x1) := by rw [HKx.out.cell]; rfl
            have HGt := Lib.hid (ref_get11 (.slice q1 s.length k1) s x1 w5 (HAl.out w5 HT5.out.ra.bel).2 (by have := HSl.out; omega))
            by_cases hg : (getL s x1).isSome = true
            · have HPB : Hid (posN m (i + 1) x1 = posN m i x1 ++ [(i : Int)]) := by show _ = _; rw [HPn.out, if_pos hg]
              obtain ⟨gv, hgv⟩ : ∃ gv, getL s x1 = some gv := Option.isSome_iff_exists.1 hg
              rw [hgv] at HGt
              clear hg hgv
              go_wp2_with fail
              refine HGt.out.mono ?_
              rintro e w7 ⟨he, hB⟩
              obtain rfl : e = .returned (.tuple #[.string gv, .bool true]) := he
              have HT7 := Lib.hid (HT5.out.below hB)
              clear hB d0 HGt HT5 HKx HBg
              have HOz : Hid (w7.ownsRow 0 3 1 (.slice pb (posN m i x1).length cb) (posN m i x1).length ((posN m i x1).map fun x : Int => Value.int .i64 x)) := HT7.out.rb.base0
              have HLz : Hid (((posN m i x1).length + 1) * 8 ≤ 140737488355328 ∧ (posN m i x1).length + 1 ≤ maxLen) := by show _ ∧ _; have := HLnB.out; unfold maxLen; omega
              go_wp2_with (at_builtin; refine wpList_push elemInt14 w7 #[.int .i64 (i : Int)] _ _ _ HOz.out rfl (by simp [Value.oneCell']) HLz.out rfl _ _ rfl rfl rfl ?_)
              intro vq w8 k1 m1 f1
              have HT8 := Lib.hid (HT7.out.pushB (x := (i : Int)) k1 m1 f1)
              obtain ⟨p8, c8, hvq⟩ := HT8.out.rb.shape
              subst hvq
              clear k1 m1 f1 HOz HLz HT7
              go_wp2_with fail
              go_round
              case rel => exact ⟨i + 1, by omega, by go_num, (by show TwoI _ _ _ _ _ _; rw [HPA.out, HPB.out]; have h := HT8.out; first | exact h | simpa [List.length_append] using h)⟩
              case measure => simp [intOf]; omega
            · have HPB : Hid (posN m (i + 1) x1 = posN m i x1) := by show _ = _; rw [HPn.out, if_neg hg, List.append_nil]
              have hgv : getL s x1 = none := by cases h : getL s x1 with
                | none => rfl
                | some y => exact absurd (by rw [h]; rfl) hg
              rw [hgv] at HGt
              clear hg hgv
              go_wp2_with fail
              refine HGt.out.mono ?_
              rintro e w7 ⟨he, hB⟩
              obtain rfl : e = .returned (.tuple #[.string ⟨#[]⟩, .bool false]) := he
              have HT7 := Lib.hid (HT5.out.below hB)
              clear hB d0 HGt HT5 HKx HBg
              go_wp2_with fail
              go_round
              case rel => exact ⟨i + 1, by omega, by go_num, (by show TwoI _ _ _ _ _ _; rw [HPA.out, HPB.out]; have h := HT7.out; first | exact h | simpa [List.length_append] using h)⟩
              case measure => simp [intOf]; omega
        · have hlt' : ¬ (i : Int) < (m.length : Int) := by omega
          have hie : i = m.length := by omega
          subst hie
          have HBw := Lib.hid (HBe.out.trans (HT.out.ra.bel.mono HBe.out.size))
          have HTw := Lib.hid (I.below HTe.out HT.out.ra.bel)
          have HKw : Hid (Blk wr bx [.string x1, .string x2]) := HK.out.of_same (HT.out.ra.bel.block _ HK.out.lt)
          have HIw := Lib.hid (HIx.out.below HT.out.ra.bel)
          have HRa : Hid (Rd wr 1 (.slice pa (posTo m m.length (x1, x2)).length ca) (posTo m m.length (x1, x2)).length (i64s (posTo m m.length (x1, x2)))) := HT.out.ra.rd
          have HRb : Hid (Rd wr 1 (.slice pb (posN m m.length x1).length cb) (posN m m.length x1).length (i64s (posN m m.length x1))) := HT.out.rb.rd
          have HFe : Hid (findP (buildP m) (x1, x2) = posTo m m.length (x1, x2)) := by show _ = _; rw [build_idx]; exact find_idx m (x1, x2)
          have HNe : Hid (namedP (buildP m) x1 = posN m m.length x1) := by show _ = _; rw [build_idx]; exact named_idx m x1
          clear HT hlt hlt' hi him
          obtain ⟨A, hA⟩ : ∃ A, posTo m m.length (x1, x2) = A := ⟨_, rfl⟩
          obtain ⟨B, hB⟩ : ∃ B, posN m m.length x1 = B := ⟨_, rfl⟩
          rw [hA] at HRa HFe ⊢
          rw [hB] at HRb HNe ⊢
          clear hA hB
          go_wp2_with fail
          refine (HAL.out _ HTw.out).mono ?_
          rintro e w7 ⟨rfl, hB⟩
          have HB7 := Lib.hid (HBw.out.trans (hB.mono HBw.out.size))
          have HT7 := Lib.hid (I.below HTw.out hB)
          have HK7 : Hid (Blk w7 bx [.string x1, .string x2]) := HKw.out.of_same (hB.block _ HKw.out.lt)
          have HI7 := Lib.hid (HIw.out.below hB)
          have HA7 := Lib.hid (HRa.out.below hB)
          have HN7 := Lib.hid (HRb.out.below hB)
          have d0 : w7.cell? ⟨bx, 0, none⟩ = some (.string x1) := by rw [HK7.out.cell]; rfl
          have d1 : w7.cell? ⟨bx, 1, none⟩ = some (.string x2) := by rw [HK7.out.cell]; rfl
          clear hB HBw HTw HKw HIw HRa HRb
          go_wp2_with fail
          refine (I.find _ _ m.length (x1, x2) w7 HT7.out HI7.out HI.out HSx.out).mono ?_
          rintro e w8 ⟨r8, rfl, hr, hB⟩
          rw [HFe.out] at hr
          have HR8 := Lib.hid hr
          obtain ⟨p8, c8, hv⟩ := hr.shape
          subst hv
          have HB8 := Lib.hid (HB7.out.trans (hB.mono HB7.out.size))
          have HT8 := Lib.hid (I.below HT7.out hB)
          have HK8 : Hid (Blk w8 bx [.string x1, .string x2]) := HK7.out.of_same (hB.block _ HK7.out.lt)
          have HI8 := Lib.hid (HI7.out.below hB)
          have HA8 := Lib.hid (HA7.out.below hB)
          have HN8 := Lib.hid (HN7.out.below hB)
          clear hr hB d0 d1 HB7 HT7 HK7 HI7 HA7 HN7
          go_wp2_with fail
          refine (equal_int _ _ A A w8 HR8.out HA8.out).mono ?_
          rintro e w9 ⟨rfl, hB⟩
          rw [decide_eq_true (rfl : A = A)]
          have HB9 := Lib.hid (HB8.out.trans (hB.mono HB8.out.size))
          have HT9 := Lib.hid (I.below HT8.out hB)
          have HK9 : Hid (Blk w9 bx [.string x1, .string x2]) := HK8.out.of_same (hB.block _ HK8.out.lt)
          have HI9 := Lib.hid (HI8.out.below hB)
          have HN9 := Lib.hid (HN8.out.below hB)
          have d0 : w9.cell? ⟨bx, 0, none⟩ = some (.string x1) := by rw [HK9.out.cell]; rfl
          clear hB HB8 HT8 HK8 HI8 HA8 HN8 HR8
          go_wp2_with fail
          refine (I.named _ _ m.length x1 w9 HT9.out HI9.out HI.out (HSx.out (x1, x2) (by simp)).1).mono ?_
          rintro e w10 ⟨r10, rfl, hr, hB⟩
          rw [HNe.out] at hr
          have HR10 := Lib.hid hr
          obtain ⟨p10, c10, hv⟩ := hr.shape
          subst hv
          have HB10 := Lib.hid (HB9.out.trans (hB.mono HB9.out.size))
          have HN10 := Lib.hid (HN9.out.below hB)
          clear hr hB d0 HB9 HT9 HK9 HI9 HN9
          go_wp2_with fail
          refine (equal_int _ _ B B w10 HR10.out HN10.out).mono ?_
          rintro e w11 ⟨rfl, hB⟩
          rw [decide_eq_true (rfl : B = B)]
          have HB11 := Lib.hid (HB10.out.trans (hB.mono HB10.out.size))
          clear hB
          go_wp2_with fail
          go_ret
          exact ⟨rfl, HB11.out⟩
end Go.Proofs.Ytpjfhakmffcolaa.postingsFind
