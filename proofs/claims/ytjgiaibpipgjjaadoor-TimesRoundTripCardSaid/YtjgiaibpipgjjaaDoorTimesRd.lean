/- Layer 5: the program's reading of numbers and forms. -/
import Derived.Test.YtjgiaibpipgjjaaDoorTimesFo
import Derived.Test.YtjgiaibpipgjjaaDoorTimesB
set_option linter.unusedVariables false
namespace Go.Proofs.YtjgiaibpipgjjaaDoor
open Go Go.RowKit

/-- A reader of bs that has the bits r left. -/
def RIs (p : Nat) (v : Value) (bs : List Nat) (r : List Bool) (w : World) : Prop := ReaderIn w p v (8 * bs.length - r.length) bs ∧ r = (unpack bs).drop (8 * bs.length - r.length)
theorem ris_of {p : Nat} {v : Value} {bs : List Nat} {i : Nat} {w : World} (h : ReaderIn w p v i bs) : RIs p v bs ((unpack bs).drop i) w := by
  have hle := h.le
  have e : 8 * bs.length - ((unpack bs).drop i).length = i := by rw [List.length_drop, unpack_length]; omega
  unfold RIs
  rw [e]
  exact ⟨h, rfl⟩
theorem RIs.len {p : Nat} {v : Value} {bs : List Nat} {r : List Bool} {w : World} (h : RIs p v bs r w) : r.length ≤ 8 * bs.length := by
  have := congrArg List.length h.2
  rw [List.length_drop, unpack_length] at this
  omega
theorem RIs.mods {S : Nat → Prop} {p : Nat} {v : Value} {bs : List Nat} {r : List Bool} {w w' : World} (h : RIs p v bs r w) (hm : Mods S w w') (hp : ¬ S p) (hv : ∀ k, v.ownBlock = some k → ¬ S k) : RIs p v bs r w' := ⟨h.1.mods hm hp hv, h.2⟩
theorem RIs.below {p : Nat} {v : Value} {bs : List Nat} {r : List Bool} {w w' : World} (h : RIs p v bs r w) (hb : Below w.heap.size w w') : RIs p v bs r w' := h.mods (Mods.of_below hb (fun _ => False)) (fun e => e) (fun _ _ e => e)
/-- What a read leaves. -/
def RP (p : Nat) (v : Value) (bs : List Nat) (r : List Bool) (w w' : World) : Prop := RIs p v bs r w' ∧ Mods (fun k => k = p) w w'

theorem rfield (p : Nat) (v : Value) (bs : List Nat) (r : List Bool) (n : Nat) (w : World) (h : RIs p v bs r w) (hn : n ≤ 64) :
    Calls Tryd.prog 42 #[.pointer (some ⟨p, 0, none⟩), .int .i64 (n : Int)] w fun e w' => e = .returned (.tuple #[.int .u64 ((field n r).x : Int), .int .i64 ((field n r).e : Int)]) ∧ RP p v bs (field n r).r w w' := by
  have hl := h.len
  by_cases hs : r.length < n
  · have hf : field n r = ⟨3, 0, r⟩ := by rw [field, if_pos hs]
    rw [hf]
    refine (rbits_eof p v _ n bs w h.1 hn (by omega)).mono ?_
    rintro e w' ⟨rfl, d, rfl⟩
    exact ⟨rfl, ⟨h.1.drewN d, h.2⟩, Mods.drewN _ _ _⟩
  · have hf : field n r = ⟨0, numOf (r.take n), r.drop n⟩ := by rw [field, if_neg hs]
    rw [hf]
    refine (rbits p v _ n bs w h.1 hn (by omega)).mono ?_
    rintro e w' ⟨rfl, hp⟩
    have he : 8 * bs.length - (r.drop n).length = 8 * bs.length - r.length + n := by rw [List.length_drop]; omega
    refine ⟨?_, ⟨by rw [he]; exact hp.rd, ?_⟩, hp.mods⟩
    · show _ = Ending.returned (.tuple #[.int .u64 ((numOf (r.take n) : Nat) : Int), .int .i64 0])
      rw [seg, ← h.2]
    · rw [he, ← List.drop_drop, ← h.2]

theorem field_lt (n : Nat) (r : List Bool) : (field n r).x < 2 ^ n := by
  rw [field]; split
  · exact Nat.two_pow_pos _
  · have := numOf_lt (r.take n)
    rw [List.length_take, Nat.min_eq_left (by omega)] at this
    exact this

theorem get_number (p : Nat) (v : Value) (bs : List Nat) (r : List Bool) (k : Nat) (hk : k ≤ 4) (w : World) (h : RIs p v bs r w) :
    Calls Tryd.prog 34 #[.pointer (some ⟨p, 0, none⟩), .int .i64 (widthT k : Int)] w fun e w' => e = .returned (.tuple #[.int .i64 (signT (field (widthT k) r).x (widthT k)), .int .i64 ((field (widthT k) r).e : Int)]) ∧ RP p v bs (field (widthT k) r).r w w' := by
  have hw := widthT_le k
  have hlt := field_lt (widthT k) r
  have h64 : (field (widthT k) r).x < 18446744073709551616 := Nat.lt_of_lt_of_le hlt (by
    have : 2 ^ widthT k ≤ 2 ^ 64 := Nat.pow_le_pow_right (by omega) hw
    simpa using this)
  have HR := Lib.hid (rfield p v bs r (widthT k) w h hw)
  have HS := fun w => Lib.hid (signed_any (field (widthT k) r).x k hk h64 w)
  have HM : Hid ((field (widthT k) r).x % 2 ^ widthT k = (field (widthT k) r).x) := Nat.mod_eq_of_lt hlt
  rw [HM.out] at HS
  clear h hlt h64 HM
  generalize signT (field (widthT k) r).x (widthT k) = s at *
  generalize (field (widthT k) r).x = x at *
  generalize (field (widthT k) r).e = e0 at *
  go_enter Tryd.func34, Tryd.ntmps34
  go_wp2_with fail
  refine HR.out.mono ?_
  rintro e w2 ⟨rfl, hP⟩
  have HP := Lib.hid hP
  clear hP
  go_wp2_with fail
  refine (HS w2).out.mono ?_
  rintro e w3 ⟨rfl, rfl⟩
  go_wp2_with fail
  go_ret2
  exact ⟨rfl, HP.out⟩

theorem onesAt_short {b : List Bool} {k : Nat} (hk : k < 4) (h : OnesAt b k []) : ∃ K, ones 4 b = ⟨3, K, []⟩ := by
  obtain ⟨m, hm⟩ : ∃ m, 4 - k = m + 1 := ⟨3 - k, by omega⟩
  rw [OnesAt, hm] at h
  exact ⟨_, h⟩
theorem field_one (b : Bool) (c : List Bool) : field 1 (b :: c) = ⟨0, b.toNat, c⟩ := by cases b <;> rfl
theorem field_none : field 1 [] = ⟨3, 0, []⟩ := rfl

/-- A variable of the call's own is stored into behind the reads. -/
theorem rp_out {p : Nat} {v : Value} {bs : List Nat} {r0 r : List Bool} {w w1 w2 : World} (h0 : RIs p v bs r0 w) (hB : Below w.heap.size w w1) (h : RP p v bs r w1 w2) (hg : w.heap.size ≠ p) (x y z : Value) :
    RP p v bs r w (((w2.setCell ⟨w.heap.size, 0, none⟩ x).setCell ⟨w.heap.size, 1, none⟩ y).setCell ⟨w.heap.size, 2, none⟩ z) := by
  have hM : Mods (fun k => k = p) w (((w2.setCell ⟨w.heap.size, 0, none⟩ x).setCell ⟨w.heap.size, 1, none⟩ y).setCell ⟨w.heap.size, 2, none⟩ z) :=
    ((Mods.of_below hB _).trans h.2 (fun _ _ e => e)).trans (mods_set3 w2 w.heap.size x y z) (fun j hj e => by omega)
  refine ⟨⟨⟨?_, h0.1.rd.mods hM (fun k hk e => h0.1.ne (by rw [hk, e])), h0.1.ne, h.1.1.le, h0.1.small, h0.1.byte⟩, h.1.2⟩, hM⟩
  exact h.1.1.blk.of_same ((mods_set3 w2 w.heap.size x y z).block _ h.1.1.blk.lt (fun e => hg e.symm))

/-- What reading a form gives. -/
def FormR (r : List Bool) (fv : Value) (e : Int) (r' : List Bool) : Prop :=
  (∃ K, K ≤ 4 ∧ ones 4 r = ⟨0, K, r'⟩ ∧ fv = .agg #[.int .u64 (markT K : Int), .int .i64 (markLenT K : Int), .int .i64 (widthT K : Int)] ∧ e = 0) ∨
  (∃ K, ones 4 r = ⟨3, K, r'⟩ ∧ fv = .agg #[.int .u64 0, .int .i64 0, .int .i64 0] ∧ e = 3)

set_option maxHeartbeats 1000000 in
theorem get_form (p : Nat) (v : Value) (bs : List Nat) (r : List Bool) (w : World) (h : RIs p v bs r w) (hT : TabF w) (hgp : 0 ≠ p) :
    Calls Tryd.prog 44 #[.pointer (some ⟨p, 0, none⟩)] w fun e w' => ∃ fv en r', e = .returned (.tuple #[fv, .int .i64 en]) ∧ FormR r fv en r' ∧ RP p v bs r' w w' := by
  have HT := Lib.hid hT; have H := Lib.hid h
  clear hT h
  go_enter Tryd.func44, Tryd.ntmps44
  go_wp2_with fail
  obtain ⟨w1, hw1⟩ : ∃ w1, w.alloc (.cells #[.int .u64 0, .int .i64 0, .int .i64 0] 67) = w1 := ⟨_, rfl⟩
  have HK1 : Hid (Blk w1 w.heap.size [.int .u64 0, .int .i64 0, .int .i64 0]) := by rw [← hw1]; exact Blk.new w _ _
  have HB1 : Hid (Below w.heap.size w w1) := by rw [← hw1]; exact (Below.refl _ w).alloc (Nat.le_refl _) _
  have HT1 := Lib.hid (HT.out.below HB1.out (Nat.le_refl _))
  have HR1 := Lib.hid (H.out.below HB1.out)
  have HPl : Hid (w.heap.size ≠ p) := fun e => by have := H.out.1.blk.lt; omega
  rw [hw1]
  clear hw1
  go_loopw [4, 7] (fun i c wr => ∃ (k : Nat) (cur : List Bool), k ≤ 4 ∧ c = .int .i64 (k : Int) ∧ Hid (OnesAt r k cur) ∧ Hid (RP p v bs cur w1 wr)) (fun _ c _ => 4 - (intOf c).toNat)
  case atStart => exact ⟨0, r, by omega, rfl, onesAt_zero _, HR1.out, Mods.refl _ _⟩
  case round =>
    obtain ⟨k, cur, hk4, rfl, HO, HP⟩ := hrel
    have HTr : Hid (TabF wr) := HT1.out.block (HP.out.2.block _ HT1.out.lt hgp)
    have HK2 : Hid (Blk wr w.heap.size [.int .u64 0, .int .i64 0, .int .i64 0]) := HP.out.2.blk HK1.out HPl.out
    by_cases hlt : k < 4
    · have hlt' : (k : Int) < 4 := by omega
      have hlt5 : (k : Int) < 5 := by omega
      have HF := Lib.hid (rfield p v bs cur 1 wr HP.out.1 (by decide))
      cases cur with
      | nil =>
        rw [field_none] at HF
        go_wp2_with fail
        refine HF.out.mono ?_
        rintro e w2 ⟨rfl, hP2⟩
        have HK3 : Hid (Blk w2 w.heap.size [.int .u64 0, .int .i64 0, .int .i64 0]) := hP2.2.blk HK2.out HPl.out
        obtain ⟨⟨c0, c1, c2⟩, f0, f1, f2⟩ := HK3.out.three
        have HP2 := Lib.hid hP2
        clear hP2
        go_wp2_with fail
        obtain ⟨K, hK⟩ := onesAt_short hlt HO.out
        refine bodyPost_ret (resultsS2 (p := 2) (u := 3) strForm (by kernel_rfl) _ w.heap.size rfl _ (HK3.out.set3 _ _ _) rfl) rfl ⟨_, 3, [], rfl, Or.inr ⟨K, hK, rfl, rfl⟩, ?_⟩
        exact rp_out H.out HB1.out ⟨HP2.out.1, HP.out.2.trans HP2.out.2 (fun _ _ e => e)⟩ HPl.out _ _ _
      | cons bit cur =>
        rw [field_one] at HF
        cases bit with
        | false =>
          have HOn := Lib.hid (onesAt_stop hlt HO.out)
          obtain ⟨t0, t1, t2⟩ := HTr.out k (by omega)
          clear t0 t1 t2
          go_wp2_with fail
          refine HF.out.mono ?_
          rintro e w2 ⟨he, hP2⟩
          have he' : e = .returned (.tuple #[.int .u64 0, .int .i64 0]) := he
          subst he'
          have HK3 : Hid (Blk w2 w.heap.size [.int .u64 0, .int .i64 0, .int .i64 0]) := hP2.2.blk HK2.out HPl.out
          have HT3 : Hid (TabF w2) := HTr.out.block (hP2.2.block _ HTr.out.lt hgp)
          obtain ⟨⟨c0, c1, c2⟩, f0, f1, f2⟩ := HK3.out.three
          obtain ⟨t0, t1, t2⟩ := HT3.out k (by omega)
          have HP2 := Lib.hid hP2
          clear hP2 he
          go_wp2_with fail
          refine bodyPost_ret (resultsS2 (p := 2) (u := 3) strForm (by kernel_rfl) _ w.heap.size rfl _ (HK3.out.set3 _ _ _) rfl) rfl ⟨_, 0, cur, rfl, Or.inl ⟨k, by omega, HOn.out, rfl, rfl⟩, ?_⟩
          exact rp_out H.out HB1.out ⟨HP2.out.1, HP.out.2.trans HP2.out.2 (fun _ _ e => e)⟩ HPl.out _ _ _
        | true =>
          go_wp2_with fail
          refine HF.out.mono ?_
          rintro e w2 ⟨he, hP2⟩
          have he' : e = .returned (.tuple #[.int .u64 1, .int .i64 0]) := he
          subst he'
          have HP2 : Hid (RP p v bs cur w1 w2) := ⟨hP2.1, HP.out.2.trans hP2.2 (fun _ _ e => e)⟩
          clear hP2 he HF
          go_wp2_with fail
          go_round
          case rel => exact ⟨k + 1, cur, by omega, by go_num, onesAt_next hlt HO.out, HP2.out⟩
          case measure => simp [intOf]; omega
    · have hlt' : ¬ (k : Int) < 4 := by omega
      have HE : Hid (k = 4) := by show _ = _; omega
      have t0 : wr.cell? ⟨0, 12, none⟩ = some (.int .u64 15) := (HTr.out 4 (by omega)).1
      have t1 : wr.cell? ⟨0, 13, none⟩ = some (.int .i64 4) := (HTr.out 4 (by omega)).2.1
      have t2 : wr.cell? ⟨0, 14, none⟩ = some (.int .i64 64) := (HTr.out 4 (by omega)).2.2
      obtain ⟨⟨c0, c1, c2⟩, f0, f1, f2⟩ := HK2.out.three
      go_wp2_with fail
      refine bodyPost_ret (resultsS2 (p := 2) (u := 3) strForm (by kernel_rfl) _ w.heap.size rfl _ (HK2.out.set3 _ _ _) rfl) rfl ⟨_, 0, rfl, cur, Or.inl ⟨4, by omega, ?_, rfl, rfl⟩, ?_⟩
      · have h4 := HO.out
        rw [HE.out] at h4
        exact onesAt_four h4
      · exact rp_out H.out HB1.out HP.out HPl.out _ _ _
end Go.Proofs.YtjgiaibpipgjjaaDoor
