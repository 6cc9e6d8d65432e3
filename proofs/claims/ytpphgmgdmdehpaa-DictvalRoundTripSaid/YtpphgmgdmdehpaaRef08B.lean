/- Layer 8: the reference's Put. -/
import Derived.Test.YtpphgmgdmdehpaaRef08A
import Derived.Test.YtpphgmgdmdehpaaRefW
set_option linter.unusedVariables false
namespace Go.Proofs.Ytpphgmgdmdehpaa
open Go Go.RowKit

def okD (l : List Nat) : Bool := decide ((dictD l).length ≤ 128)
def putD (l : List Nat) : List Bool := if okD l then encD l else []
theorem wordsBits_len (d : List Nat) : (wordsBits d).length = 64 * d.length := by
  induction d with
  | nil => rfl
  | cons x d ih => rw [wordsBits, List.flatMap_cons, List.length_append, fieldBits_length]; rw [wordsBits] at ih; rw [ih, List.length_cons]; omega
theorem indsBits_len (k : Nat) (is : List Nat) : (indsBits k is).length = widthD k * is.length := by
  induction is with
  | nil => rfl
  | cons x d ih => rw [indsBits, List.flatMap_cons, List.length_append, fieldBits_length]; rw [indsBits] at ih; rw [ih, List.length_cons, Nat.mul_add]; omega
theorem wordsBits_take (d : List Nat) (i : Nat) (h : i < d.length) (x : Nat) (hx : d[i] = x) : wordsBits (d.take (i + 1)) = wordsBits (d.take i) ++ fieldBits x 64 := by
  rw [List.take_add_one, List.getElem?_eq_getElem h, hx, wordsBits, List.flatMap_append]; simp [wordsBits]
theorem indsBits_take (k : Nat) (is : List Nat) (i : Nat) (h : i < is.length) (x : Nat) (hx : is[i] = x) : indsBits k (is.take (i + 1)) = indsBits k (is.take i) ++ fieldBits x (widthD k) := by
  rw [List.take_add_one, List.getElem?_eq_getElem h, hx, indsBits, List.flatMap_append]; simp [indsBits]

set_option maxRecDepth 20000 in
set_option maxHeartbeats 4000000 in
theorem ref_put08 (v lv : Value) (bs : List Bool) (l : List Nat) (w : World) (h : BitsIn w v bs) (hl : Rd w 1 lv l.length (u64s l)) (hin : ∀ t ∈ l, in64u t) (hap : l ≠ [] → ∀ k, lv.ownBlock = some k → v.ownBlock ≠ some k) (hn : l.length ≤ 1000000000) (hz : bs.length + 8199 + 7 * l.length ≤ 70368744177000) :
    Calls Try.prog 19 #[v, lv] w fun e w' => ∃ v', e = .returned (.tuple #[v', .bool (okD l)]) ∧ RefWrote v (bs ++ putD l) w v' w' := by
  have H := Lib.hid h
  have HS := Lib.hid (ref_dict08 lv l w hl hn)
  have HIn : Hid (∀ x ∈ dictD l, x < 18446744073709551616) := fun x hx => hin x ((dictD_mem l x).1 hx)
  have HMem : Hid (∀ x ∈ l, x ∈ dictD l) := fun x hx => (dictD_mem l x).2 hx
  have HVl : Hid (∀ k, v.ownBlock = some k → k < w.heap.size) := owns_lt h
  have HL := Lib.hid hl; have HAp := Lib.hid hap; have HNn := Lib.hid hn; have HZ := Lib.hid hz
  have HDl := Lib.hid (dictD_len l)
  have HE1 : Hid (okD l = decide ((dictD l).length ≤ 128)) := rfl
  have HE2 : Hid (putD l = if okD l then (if l = [] then [] else fieldBits ((dictD l).length - 1) 7 ++ (wordsBits (dictD l) ++ indsBits (dictD l).length (l.map fun x => (dictD l).idxOf x))) else []) := rfl
  have hnz : (0 : Int) ≤ (l.length : Int) ∧ (l.length : Int) ≤ 1000000000 := by omega
  obtain ⟨hnz1, hnz2⟩ := hnz
  have HDne : Hid (l ≠ [] → 0 < (dictD l).length) := fun hne => by
    obtain ⟨x, hx⟩ := List.exists_mem_of_ne_nil l hne
    exact List.length_pos_of_mem ((dictD_mem l x).2 hx)
  obtain ⟨pl, cl, hv⟩ := hl.shape
  subst hv
  obtain ⟨p0, c0, hv0⟩ := (Rd.of_owns h).shape
  subst hv0
  clear h hl hin hap hn hz
  generalize dictD l = d at *
  go_enter Try.func19, Try.ntmps19
  go_wp2_with fail
  refine HS.out.mono ?_
  rintro e w1 ⟨dv, rfl, hO⟩
  have HO := Lib.hid hO
  have HW1 : Hid (RefWrote (.slice p0 bs.length c0) bs w1 (.slice p0 bs.length c0) w1) := ⟨(Mods.of_below hO.bel (fun _ => False)).owns H.out (fun _ _ e => e), Mods.refl _ _, Fresh.refl _ _⟩
  have HBel := Lib.hid hO.bel
  have HEnd : Hid (∀ {B v2 w2}, RefWrote (.slice p0 bs.length c0) B w1 v2 w2 → RefWrote (.slice p0 bs.length c0) B w v2 w2) := fun {B v2 w2} hw => by
    refine ⟨hw.own, (Mods.of_below HBel.out _).trans hw.mods (fun _ _ e => e), fun k hk => ?_⟩
    rcases hw.fresh k hk with e | e
    · exact Or.inl e
    · have := HBel.out.size; exact Or.inr (by omega)
  obtain ⟨pv, cv, hvv⟩ := (Rd.of_owns hO.row).shape
  subst hvv
  have HApart : Hid (∀ g, w.heap.size ≤ g → ¬ (Value.slice p0 bs.length c0).ownBlock = some g) := fun g hg e => by have := HVl.out g e; omega
  clear hO HS
  obtain ⟨N, hN⟩ : ∃ N, d.length = N := ⟨_, rfl⟩
  have HNe := Lib.hid hN
  rw [hN] at HO HDl HE1 HE2 HDne ⊢
  have hNb : (N : Int) ≤ 1000000000 := by have := HDl.out; omega
  clear hN
  by_cases h0 : l.length = 0
  · have hl0 : (l.length : Int) = 0 := by omega
    have hle : l = [] := List.eq_nil_of_length_eq_zero h0
    have HOk : Hid (okD l = true) := by show _ = _; rw [HE1.out]; have := HDl.out; exact decide_eq_true (by omega)
    have HPu : Hid (putD l = []) := by show _ = _; rw [HE2.out, HOk.out, if_pos rfl, if_pos hle]
    go_wp2_with fail
    go_ret2
    rw [HOk.out, HPu.out, List.append_nil]
    exact ⟨_, rfl, HEnd.out HW1.out⟩
  · have hl0 : ¬ (l.length : Int) = 0 := by omega
    have hl0b : ((l.length : Int) == 0) = false := by rw [beq_eq_false_iff_ne]; exact hl0
    have hlne : l ≠ [] := fun e => h0 (by rw [e]; rfl)
    have HN1 := Lib.hid (HDne.out hlne)
    have HApl : Hid (∀ k, (Value.slice pl l.length cl).ownBlock = some k → (Value.slice p0 bs.length c0).ownBlock ≠ some k) := HAp.out hlne
    have HLne := Lib.hid hlne
    clear h0 hlne HAp HDne
    by_cases h128 : 128 < N
    · have h128' : (128 : Int) < (N : Int) := by omega
      have HOk : Hid (okD l = false) := by show _ = _; rw [HE1.out]; exact decide_eq_false (by omega)
      have HPu : Hid (putD l = []) := by show _ = _; rw [HE2.out, HOk.out, if_neg (by decide)]
      clear h128
      go_wp2_with fail
      go_ret2
      rw [HOk.out, HPu.out, List.append_nil]
      exact ⟨_, rfl, HEnd.out HW1.out⟩
    · have h128' : ¬ (128 : Int) < (N : Int) := by omega
      have HOk : Hid (okD l = true) := by show _ = _; rw [HE1.out]; exact decide_eq_true (by omega)
      have HPu : Hid (putD l = fieldBits (N - 1) 7 ++ (wordsBits d ++ indsBits N (l.map fun x => d.idxOf x))) := by show _ = _; rw [HE2.out, HOk.out, if_pos rfl, if_neg HLne.out]
      have H128 : Hid (N ≤ 128) := by show _ ≤ _; omega
      have hNs : (N : Int) - 1 = ((N - 1 : Nat) : Int) := by have := HN1.out; omega
      have hNw : IntKind.u64.wrap ((N - 1 : Nat) : Int) = ((N - 1 : Nat) : Int) := by rw [IntKind.wrap_u64]; omega
      have HM : Hid (N - 1 < 128) := by show _ < _; omega
      have hMb : ((N - 1 : Nat) : Int) ≤ 128 := by omega
      have hNb2 : (N : Int) ≤ 128 := by omega
      have hN1 : (1 : Int) ≤ (N : Int) := by have := HN1.out; omega
      clear h128 HE1 HE2 hNb
      generalize hM : N - 1 = M at *
      clear hM
      go_wp2_with fail
      refine (ref_write _ bs M 7 _ HW1.out.own (by have := HM.out; omega) (by omega) (by have := HZ.out; omega)).mono ?_
      rintro en w7 ⟨v7, rfl, hR⟩
      have HR7 : Hid (RefWrote (.slice p0 bs.length c0) (bs ++ fieldBits M 7) w1 v7 w7) := HW1.out.then hR
      have HB7 : Hid ((bs ++ fieldBits M 7).length = bs.length + 7) := by show _ = _; rw [List.length_append, fieldBits_length]
      clear hR
      generalize hB7 : bs ++ fieldBits M 7 = B7 at *
      have HBe := Lib.hid hB7
      clear hB7
      obtain ⟨p7, c7, hv7⟩ := (Rd.of_owns HR7.out.own).shape
      subst hv7
      go_wp2_with fail
      go_loopw [0, 7] (fun v2 iv wr => ∃ (i : Nat) (B : List Bool), i ≤ N ∧ iv = .int .i64 (i : Int) ∧ Hid (B = B7 ++ wordsBits (d.take i)) ∧ Hid (RefWrote (.slice p0 bs.length c0) B w1 v2 wr)) (fun _ iv _ => N - (intOf iv).toNat)
      case atStart => exact ⟨0, B7, by omega, rfl, by show _ = _; simp [wordsBits], HR7.out⟩
      case round =>
        obtain ⟨i, B, hi, rfl, HB, HW⟩ := hrel
        obtain ⟨p2, c2, hv2⟩ := (Rd.of_owns HW.out.own).shape
        subst hv2
        have HVr : Hid (wr.ownsRow w.heap.size 25 1 (.slice pv N cv) d.length (u64s d)) := HW.out.mods.owns HO.out.row (fun k hk e => HApart.out k (HO.out.row.lt k hk).1 e)
        by_cases hlt : i < N
        · have hlt' : (i : Int) < (N : Int) := by omega
          have hib : (i : Int) ≤ 128 := by omega
          rw [HNe.out] at HVr
          obtain ⟨gv, cv', hvv⟩ : ∃ g cap, (Value.slice pv N cv) = .slice (some ⟨g, 0, none⟩) N cap := by
            rcases owns_cases HVr.out with ⟨_, h0, _⟩ | ⟨g, cap, hv, _⟩
            · omega
            · exact ⟨g, cap, hv⟩
          simp only [Value.slice.injEq] at hvv
          obtain ⟨rfl, _, rfl⟩ := hvv
          obtain ⟨x, hx⟩ : ∃ x, d[i]'(by have := HNe.out; omega) = x := ⟨_, rfl⟩
          have hcv : wr.cell? ⟨gv, i, none⟩ = some (.int .u64 (x : Int)) := by
            rw [HVr.out.cellAt i (by omega), ← hx]; simp [u64s, show i < d.length by have := HNe.out; omega]
          have HX : Hid (x < 18446744073709551616) := by show _ < _; rw [← hx]; exact HIn.out _ (List.getElem_mem _)
          have HTk := Lib.hid (wordsBits_take d i (by have := HNe.out; omega) x hx)
          have HBl : Hid (B.length = bs.length + 7 + 64 * i) := by show _ = _; rw [HB.out, List.length_append, wordsBits_len, List.length_take, HB7.out]; have := HNe.out; omega
          clear hx
          go_wp2_with fail
          refine (ref_write _ B x 64 _ HW.out.own HX.out (by omega) (by have := HBl.out; have := HZ.out; omega)).mono ?_
          rintro en w8 ⟨v8, rfl, hR⟩
          have HR8 : Hid (RefWrote (.slice p0 bs.length c0) (B ++ fieldBits x 64) w1 v8 w8) := HW.out.then hR
          have HB8 : Hid (B ++ fieldBits x 64 = B7 ++ wordsBits (d.take (i + 1))) := by show _ = _; rw [HTk.out, ← List.append_assoc, HB.out]
          clear hR HW HVr hcv
          generalize B ++ fieldBits x 64 = B2 at *
          obtain ⟨p8, c8, hv8⟩ := (Rd.of_owns HR8.out.own).shape
          subst hv8
          go_wp2_with fail
          go_round
          case rel => exact ⟨i + 1, B2, by omega, by go_num, HB8.out, HR8.out⟩
          case measure => simp [intOf]; omega
        · have hlt' : ¬ (i : Int) < (N : Int) := by omega
          have HB8 : Hid (B = B7 ++ wordsBits d) := by show _ = _; rw [HB.out, List.take_of_length_le (by have := HNe.out; omega)]
          have HBl8 : Hid (B.length = bs.length + 7 + 64 * N) := by show _ = _; rw [HB8.out, List.length_append, wordsBits_len, HB7.out, HNe.out]
          clear HB hlt
          have hib : (i : Int) ≤ 128 := by omega
          go_wp2_with fail
          go_loopw [0, 8] (fun v2 iv wr2 => ∃ (j : Nat) (C : List Bool), j ≤ l.length ∧ iv = .int .i64 (j : Int) ∧ Hid (C = B ++ indsBits N ((l.take j).map fun x => d.idxOf x)) ∧ Hid (RefWrote (.slice p0 bs.length c0) C w1 v2 wr2)) (fun _ iv _ => l.length - (intOf iv).toNat)
          case atStart => exact ⟨0, B, by omega, rfl, by show _ = _; simp [indsBits], HW.out⟩
          case round =>
            obtain ⟨j, C, hj, rfl, HC, HW2⟩ := hrel
            obtain ⟨p3, c3, hv3⟩ := (Rd.of_owns HW2.out.own).shape
            subst hv3
            clear HW HVr
            have HVr : Hid (wr.ownsRow w.heap.size 25 1 (.slice pv N cv) d.length (u64s d)) := HW2.out.mods.owns HO.out.row (fun k hk e => HApart.out k (HO.out.row.lt k hk).1 e)
            have HLr : Hid (Rd wr 1 (.slice pl l.length cl) l.length (u64s l)) := (HL.out.below HBel.out).mods HW2.out.mods (fun k hk e => HApl.out k hk e)
            have hjb : (j : Int) ≤ 1000000000 := by omega
            by_cases hlt : j < l.length
            · have hlt' : (j : Int) < (l.length : Int) := by omega
              obtain ⟨b, off, c', e, hnc, hncm, hcell⟩ := HLr.out.at (fun e => by have := congrArg List.length e; rw [u64s_length] at this; simp at this; subst this; simp at hlt)
              simp only [Value.slice.injEq] at e
              obtain ⟨rfl, _, rfl⟩ := e
              obtain ⟨x, hx⟩ : ∃ x, l[j] = x := ⟨_, rfl⟩
              have hct : wr.cell? ⟨b, off + j, none⟩ = some (.int .u64 (x : Int)) := by rw [← hx]; exact hcell j _ (u64s_get l j hlt)
              have HMx : Hid (x ∈ d) := HMem.out x (hx ▸ List.getElem_mem hlt)
              have HF := Lib.hid (ref_find08 (.slice pv N cv) d x wr (Rd.of_owns HVr.out) (by have := HNe.out; omega))
              have HFi : Hid (findI d x = ((d.idxOf x : Nat) : Int)) := by show _ = _; rw [findI, if_pos HMx.out]
              have HIx : Hid (d.idxOf x < N) := by show _ < _; have := List.idxOf_lt_length_of_mem HMx.out; have := HNe.out; omega
              have HTk : Hid (indsBits N ((l.take (j + 1)).map fun x => d.idxOf x) = indsBits N ((l.take j).map fun x => d.idxOf x) ++ fieldBits (d.idxOf x) (widthD N)) := by
                show _ = _
                rw [List.take_add_one, List.getElem?_eq_getElem hlt, hx, List.map_append]; simp [indsBits]
              have HWd := Lib.hid (ref_width08 (N : Int) wr (by omega))
              have HWi : Hid (widthI (N : Int) = ((widthD N : Nat) : Int)) := by show _ = _; rw [widthI, Int.toNat_natCast]
              have HWb : Hid (widthD N ≤ 7) := width_le H128.out
              have HCl : Hid (C.length ≤ bs.length + 7 + 64 * 128 + 7 * j) := by
                show _ ≤ _
                rw [HC.out, List.length_append, indsBits_len, List.length_map, List.length_take, HBl8.out]
                have h1 := Nat.mul_le_mul_right j HWb.out
                rw [Nat.min_eq_left hj]
                have := H128.out
                omega
              have hixb : ((d.idxOf x : Nat) : Int) < 128 := by have := HIx.out; have := H128.out; omega
              have hixw : IntKind.u64.wrap ((d.idxOf x : Nat) : Int) = ((d.idxOf x : Nat) : Int) := by rw [IntKind.wrap_u64]; omega
              have hwb : ((widthD N : Nat) : Int) ≤ 7 := by have := HWb.out; omega
              clear hcell hx hnc hncm
              generalize hix : d.idxOf x = ix at *
              generalize hWN : widthD N = W at *
              clear hix hWN
              go_wp2_with fail
              refine HF.out.mono ?_
              rintro e w8 ⟨rfl, h8⟩
              obtain rfl := h8.symm
              rw [HFi.out]
              go_wp2_with fail
              refine HWd.out.mono ?_
              rintro e w8 ⟨rfl, h8⟩
              obtain rfl := h8.symm
              rw [HWi.out]
              go_wp2_with fail
              refine (ref_write _ C ix W _ HW2.out.own (by omega) (by omega) (by have := HCl.out; have := HZ.out; omega)).mono ?_
              rintro en w9 ⟨v9, rfl, hR⟩
              have HR9 : Hid (RefWrote (.slice p0 bs.length c0) (C ++ fieldBits ix W) w1 v9 w9) := HW2.out.then hR
              have HC9 : Hid (C ++ fieldBits ix W = B ++ indsBits N ((l.take (j + 1)).map fun x => d.idxOf x)) := by show _ = _; rw [HTk.out, ← List.append_assoc, HC.out]
              clear hR HW2 HVr HLr hct HF HWd
              generalize C ++ fieldBits ix W = C2 at *
              obtain ⟨p9, c9, hv9⟩ := (Rd.of_owns HR9.out.own).shape
              subst hv9
              go_wp2_with fail
              go_round
              case rel => exact ⟨j + 1, C2, by omega, by go_num, HC9.out, HR9.out⟩
              case measure => simp [intOf]; omega
            · have hlt' : ¬ (j : Int) < (l.length : Int) := by omega
              have HCe : Hid (C = bs ++ putD l) := by
                show _ = _
                rw [HC.out, List.take_of_length_le (by omega), HB8.out, HPu.out, ← HBe.out]
                simp only [List.append_assoc]
              go_wp2_with fail
              go_ret2
              rw [HOk.out, ← HCe.out]
              exact ⟨_, rfl, HEnd.out HW2.out⟩
end Go.Proofs.Ytpphgmgdmdehpaa
