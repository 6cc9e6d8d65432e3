/- Ref06B, Ref07A, Ref07B, Ref09A, in one text. -/
import Derived.Test.YtgpmoimmpbkgfaaGreatDoorMrg15
import Derived.Test.YtgpmoimmpbkgfaaGreatDoorMrg4
import Derived.Test.YtgpmoimmpbkgfaaGreatDoorMrg3
import Derived.Test.YtgpmoimmpbkgfaaGreatDoorMrg2

section
/- Layer 6: the reference's Put. -/
set_option linter.unusedVariables false
namespace Go.Proofs.YtgpmoimmpbkgfaaGreatDoor
open Go Go.RowKit

/-- The window as the reference keeps it. -/
def leadI (win : Option (Nat × Nat)) : Int := match win with
  | none => -1
  | some (L, _) => (L : Int)
def trailI (win : Option (Nat × Nat)) : Int := match win with
  | none => 0
  | some (_, t) => (t : Int)
/-- The bits written so far, and those that are still to be written. -/
def PutAtV (bs : List Bool) (l : List Nat) (j : Nat) (win : Option (Nat × Nat)) (B : List Bool) : Prop :=
  (j = 0 ∧ win = none ∧ B = bs) ∨ (∃ k last, j = k + 1 ∧ l[k]? = some last ∧ okW win ∧ B ++ encFromV win last (l.drop j) = bs ++ encV l)
set_option maxRecDepth 10000 in
set_option maxHeartbeats 4000000 in
theorem ref_put06 (v lv : Value) (bs : List Bool) (l : List Nat) (w : World) (h : BitsIn w v bs) (hl : Rd w 1 lv l.length (u64s l)) (hin : ∀ t ∈ l, in64u t) (hap : l ≠ [] → ∀ k, lv.ownBlock = some k → v.ownBlock ≠ some k) (hz : bs.length + 78 * l.length ≤ 70368744177000) :
    Calls Tryz.prog 45 #[v, lv] w fun e w' => ∃ v', e = .returned v' ∧ RefWrote v (bs ++ encV l) w v' w' := by
  have H := Lib.hid h
  have HL6 := Lib.hid hl
  have HZ := Lib.hid hz
  obtain ⟨pl, cl, hv⟩ := hl.shape
  subst hv
  clear h hl hz
  go_enter Tryz.func45, Tryz.ntmps45
  go_wp2_with fail
  go_loopw [0, 5, 6, 7] (fun v2 lv tv c wr => ∃ (j : Nat) (win : Option (Nat × Nat)) (B : List Bool), j ≤ l.length ∧ c = .int .i64 (j : Int) ∧ lv = .int .i64 (leadI win) ∧ tv = .int .i64 (trailI win) ∧ PutAtV bs l j win B ∧ Hid (RefWrote v B w v2 wr)) (fun _ _ _ c _ => l.length - (intOf c).toNat)
  case atStart => exact ⟨0, none, bs, by omega, rfl, rfl, rfl, Or.inl ⟨rfl, rfl, rfl⟩, H.out, Mods.refl _ _, Fresh.refl _ _⟩
  case round =>
    obtain ⟨j, win, B, hj, rfl, rfl, rfl, hP, HW⟩ := hrel
    by_cases hlt : j < l.length
    · have hlt' : (j : Int) < (l.length : Int) := by omega
      have HLr := Lib.hid (HL6.out.mods HW.out.mods (fun k hk e => hap (fun e0 => by rw [e0] at hlt; simp at hlt) k hk e))
      obtain ⟨b, off, c', e, hnc, hncm, hcell⟩ := HLr.out.at (fun e => by have := congrArg List.length e; rw [u64s_length] at this; simp at this; subst this; simp at hlt)
      simp only [Value.slice.injEq] at e
      obtain ⟨rfl, _, rfl⟩ := e
      obtain ⟨t, ht⟩ : ∃ t, l[j] = t := ⟨_, rfl⟩
      have hct : wr.cell? ⟨b, off + j, none⟩ = some (.int .u64 (t : Int)) := by rw [← ht]; exact hcell j _ (u64s_get l j hlt)
      have hdj : l.drop j = t :: l.drop (j + 1) := by rw [← ht]; exact List.drop_eq_getElem_cons hlt
      have hti : in64u t := ht ▸ hin _ (List.getElem_mem hlt)
      obtain ⟨p0, c0, hv0⟩ := (Rd.of_owns HW.out.own).shape
      subst hv0
      rcases hP with ⟨rfl, rfl, rfl⟩ | ⟨k, last, hjk, hlast, hok, hBl⟩
      · have HE : Hid (∀ B', B' = B ++ fieldBits t 64 → PutAtV B l 1 none B') := fun B' e => by
          refine Or.inr ⟨0, t, rfl, by rw [List.getElem?_eq_getElem hlt, ht], (fun _ _ e => by cases e), ?_⟩
          rw [List.drop_zero] at hdj
          rw [e, List.append_assoc]
          congr 1
          conv => rhs; rw [hdj]
          rw [encV]
        have HN : Hid (B.length + 64 ≤ 70368744177664) := by show _ ≤ _; have := HZ.out; omega
        have hct0 : wr.cell? ⟨b, off, none⟩ = some (.int .u64 (t : Int)) := hct
        have hlt0 : (0 : Int) < (l.length : Int) := hlt'
        have HTi := Lib.hid hti
        clear hdj hcell ht hct hnc hncm hti
        go_wp2_with fail
        refine (ref_write _ B t 64 _ HW.out.own HTi.out (by omega) HN.out).mono ?_
        rintro en w7 ⟨v7, rfl, hR⟩
        have HR : Hid (RefWrote v (B ++ fieldBits t 64) w v7 w7) := HW.out.then hR
        clear hR
        go_wp2_with fail
        go_round
        case rel => exact ⟨1, none, _, by omega, rfl, rfl, rfl, HE.out _ rfl, HR.out⟩
        case measure => simp [intOf]; omega
      · have hkl : k < l.length := by omega
        have hlk : l[k] = last := by rw [List.getElem?_eq_getElem hkl] at hlast; exact Option.some.inj hlast
        have hck : wr.cell? ⟨b, off + k, none⟩ = some (.int .u64 (last : Int)) := hcell k _ (by rw [u64s_get l k hkl, hlk])
        have hla : in64u last := hlk ▸ hin _ (List.getElem_mem hkl)
        have HX : Hid (bits BinOp.xor IntKind.u64 (t : Int) (last : Int) = ((t ^^^ last : Nat) : Int)) := bits_xor_u64_nat t last hti hla
        have HXl : Hid (t ^^^ last < 18446744073709551616) := xor_lt64 hti hla
        rw [hdj, encFromV] at hBl
        have HE : Hid (∀ B', B' = B ++ encW win (t ^^^ last) → PutAtV bs l (j + 1) (nextW win (t ^^^ last)) B') := fun B' e => by
          refine Or.inr ⟨j, t, rfl, by rw [List.getElem?_eq_getElem hlt, ht], okW_next hok HXl.out, ?_⟩
          rw [e, List.append_assoc]; exact hBl
        have HN : Hid (B.length + 78 ≤ 70368744177660) := by
          show _ ≤ _
          have h1 := congrArg List.length hBl
          simp only [List.length_append] at h1
          have h2 := encV_len l
          have := HZ.out
          omega
        have HOk := Lib.hid hok
        have hj1 : (j : Int) - 1 = (k : Int) := by omega
        have hjb2 : ((j : Int) == 0) = false := by rw [beq_eq_false_iff_ne]; omega
        have hk' : (k : Int) < (l.length : Int) := by omega
        have hlm : (l.length : Int) ≤ 9223372036854775807 := by have := HZ.out; omega
        clear hdj hcell ht hlast hBl hjk hkl hlk hok hla hti hnc hncm
        go_wp2_with fail
        go_quiet (fail)
        have HWa : Hid (RefWrote v B w (Value.slice p0 B.length c0) (wr.drewN nq)) := HW.out.drewN _
        clear hct hck HW HLr
        generalize wr.drewN nq = wa at *
        rw [HX.out]
        generalize t ^^^ last = x at *
        clear HX
        by_cases hx0 : x = 0
        · subst hx0
          have hE0 : encW win 0 = [false] := by unfold encW; rw [if_pos rfl]
          have hN0 : nextW win 0 = win := by rw [nextW, if_pos rfl]
          rw [hE0, hN0] at HE
          have HLb : Hid ((B.length + 1) * 1 ≤ 140737488355328 ∧ B.length + 1 ≤ maxLen) := by show _ ∧ _; have := HN.out; unfold maxLen; omega
          clear hE0 hN0
          go_wp2_with (at_builtin; refine wpList_push Tryz.elemBool wa #[.bool false] _ _ _ HWa.out.own rfl (one_cell _ rfl) HLb.out rfl _ _ rfl rfl rfl ?_)
          intro v8 w8 hown hmods hfr
          have HR : Hid (RefWrote v (B ++ [false]) w v8 w8) := HWa.out.lit hown hmods hfr
          clear hown hmods hfr
          go_wp2_with fail
          go_round
          case rel => exact ⟨j + 1, win, _, by omega, by go_num, rfl, rfl, HE.out _ rfl, HR.out⟩
          case measure => simp [intOf]; omega
        · have hxb : ((x : Int) == 0) = false := by rw [beq_eq_false_iff_ne]; omega
          have HZr := Lib.hid (ref_zeros x HXl.out hx0 wa)
          have HWin := Lib.hid (window HXl.out hx0)
          cases win with
          | none =>
            simp only [leadI, trailI]
            have hff : fits none x = false := rfl
            have HEf : Hid (encW none x = freshW x) := by
              show _ = _
              unfold encW
              rw [if_neg hx0]
            have HNf : Hid (nextW none x = some (leadV x, trailV x)) := by show _ = _; rw [nextW, if_neg hx0, if_neg (by rw [hff]; decide)]
            have HEn : Hid (∀ B', B' = B ++ freshW x → PutAtV bs l (j + 1) (some (leadV x, trailV x)) B') := fun B' e => by have h := HE.out B' (by rw [HEf.out]; exact e); rw [HNf.out] at h; exact h
            have HFr : Hid (freshW x = [true, true] ++ (fieldBits (leadV x) 6 ++ (fieldBits (63 - leadV x - trailV x) 6 ++ fieldBits (x / 2 ^ trailV x) (64 - leadV x - trailV x)))) := rfl
            have HIn : Hid (x / 2 ^ trailV x < 18446744073709551616) := by show _ < _; have := Nat.div_le_self x (2 ^ trailV x); have := HXl.out; omega
            have HIs : Hid (∀ w, Calls Tryz.prog 75 #[.int .u64 (x : Int), .int .i64 (trailV x : Int)] w fun e w' => e = .returned (.int .u64 ((x / 2 ^ trailV x : Nat) : Int)) ∧ w' = w) := fun w => ref_inside x (trailV x) HXl.out (by have := HWin.out; omega) w
            generalize freshW x = FW at *
            generalize x / 2 ^ trailV x = xi at *
            generalize leadV x = ld at *
            generalize trailV x = tr at *
            clear HE HEf HNf hff
            go_wp2_with fail
            refine HZr.out.mono ?_
            rintro en w7 ⟨rfl, hb7⟩
            have HW7 := Lib.hid (HWa.out.below hb7)
            clear hb7 HZr HWa
            have HAl : Hid (RefWrote v B w (Value.slice p0 B.length c0) (w7.alloc (.cells #[.bool true, .bool true] 4))) := HW7.out.below ((Below.refl _ _).alloc (Nat.le_refl _) _)
            have HLi : Hid (Rd (w7.alloc (.cells #[.bool true, .bool true] 4)) 1 (.slice (some ⟨w7.heap.size, 0, none⟩) 2 2) 2 (bls [true, true])) := Rd.of_owns (World.ownsRow_lit (base := 0) w7 #[.bool true, .bool true] 2 (Nat.zero_le _) (by simp [maxLen]) (by simp))
            have HLb : Hid ((B.length + 2) * 1 ≤ 140737488355328 ∧ B.length + 2 ≤ maxLen) := by show _ ∧ _; have := HN.out; unfold maxLen; omega
            have HOne : Hid (∀ u ∈ bls [true, true], u.oneCell' = true) := by intro u hu; simp [bls] at hu; rcases hu with rfl | rfl <;> rfl
            go_wp2_with (at_builtin; refine wpList_extend Tryz.elemBool _ _ _ _ _ _ _ HAl.out.own HLi.out HOne.out HLb.out rfl _ _ rfl rfl rfl ?_)
            intro v8 w8 hown hmods hfr
            have HR8 : Hid (RefWrote v (B ++ [true, true]) w v8 w8) := HAl.out.lit hown hmods (by simpa using hfr)
            clear hown hmods hfr HAl HLi HLb HOne
            obtain ⟨p8, c8, hv8⟩ := (Rd.of_owns HR8.out.own).shape
            subst hv8
            have hwl : IntKind.u64.wrap (ld : Int) = (ld : Int) := by rw [IntKind.wrap_u64]; have := HWin.out; omega
            have hs1 : (63 : Int) - (ld : Int) - (tr : Int) = ((63 - ld - tr : Nat) : Int) := by have := HWin.out; omega
            have hs2 : (64 : Int) - (ld : Int) - (tr : Int) = ((64 - ld - tr : Nat) : Int) := by have := HWin.out; omega
            have hwl2 : IntKind.u64.wrap ((63 - ld - tr : Nat) : Int) = ((63 - ld - tr : Nat) : Int) := by rw [IntKind.wrap_u64]; omega
            have hld : (ld : Int) ≤ 63 := by have := HWin.out; omega
            have htr : (tr : Int) ≤ 63 := by have := HWin.out; omega
            have HL1 : Hid ((B ++ [true, true]).length + 64 ≤ 70368744177664) := by show _ ≤ _; have := HN.out; simp; omega
            have HL2 : Hid (((B ++ [true, true]) ++ fieldBits ld 6).length + 64 ≤ 70368744177664) := by show _ ≤ _; have := HN.out; simp [fieldBits_length]; omega
            have HL3 : Hid ((((B ++ [true, true]) ++ fieldBits ld 6) ++ fieldBits (63 - ld - tr) 6).length + 64 ≤ 70368744177664) := by show _ ≤ _; have := HN.out; simp [fieldBits_length]; omega
            have HFe : Hid (B ++ FW = (((B ++ [true, true]) ++ fieldBits ld 6) ++ fieldBits (63 - ld - tr) 6) ++ fieldBits xi (64 - ld - tr)) := by show _ = _; rw [HFr.out]; simp only [List.append_assoc]
            generalize hM1 : B ++ [true, true] = M1 at *
            generalize hM2 : M1 ++ fieldBits ld 6 = M2 at *
            generalize hM3 : M2 ++ fieldBits (63 - ld - tr) 6 = M3 at *
            have HM2 := Lib.hid hM2
            have HM3 := Lib.hid hM3
            clear hM1 hM2 hM3
            have hW63 : Hid (63 - ld - tr < 18446744073709551616 ∧ ld < 18446744073709551616 ∧ 64 - ld - tr ≤ 64) := by show _ ∧ _; have := HWin.out; omega
            generalize 63 - ld - tr = wm at *
            generalize 64 - ld - tr = wd at *
            go_wp2_with fail
            refine (ref_write _ M1 ld 6 _ HR8.out.own hW63.out.2.1 (by decide) HL1.out).mono ?_
            rintro en w9 ⟨v9, rfl, hR⟩
            have HR9 : Hid (RefWrote v M2 w v9 w9) := by
              show RefWrote _ _ _ _ _
              rw [← HM2.out]
              exact HR8.out.then hR
            obtain ⟨p9, c9, hv9⟩ := (Rd.of_owns HR9.out.own).shape
            subst hv9
            clear hR HR8
            go_wp2_with fail
            refine (ref_write _ M2 wm 6 _ HR9.out.own hW63.out.1 (by decide) HL2.out).mono ?_
            rintro en wa2 ⟨va, rfl, hR⟩
            have HRa : Hid (RefWrote v M3 w va wa2) := by
              show RefWrote _ _ _ _ _
              rw [← HM3.out]
              exact HR9.out.then hR
            obtain ⟨pa, ca, hva⟩ := (Rd.of_owns HRa.out.own).shape
            subst hva
            clear hR HR9
            go_wp2_with fail
            refine (HIs.out _).mono ?_
            rintro en wb2 ⟨rfl, rfl⟩
            go_wp2_with fail
            refine (ref_write _ M3 xi wd _ HRa.out.own HIn.out hW63.out.2.2 HL3.out).mono ?_
            rintro en wc2 ⟨vc, rfl, hR⟩
            have HRc := Lib.hid (HRa.out.then hR)
            clear hR HRa
            go_wp2_with fail
            go_round
            case rel => exact ⟨j + 1, some (ld, tr), _, by omega, by go_num, rfl, rfl, HEn.out _ HFe.out.symm, HRc.out⟩
            case measure => simp [intOf]; omega
          | some wn =>
            obtain ⟨Lw, tw⟩ := wn
            simp only [leadI, trailI]
            have HWo : Hid (Lw + tw ≤ 63) := HOk.out Lw tw rfl
            have hLw : (Lw : Int) ≤ 63 := by have := HWo.out; omega
            have htw : (tw : Int) ≤ 63 := by have := HWo.out; omega
            by_cases hfL : Lw ≤ leadV x
            · by_cases hft : tw ≤ trailV x
              · have hft2 : fits (some (Lw, tw)) x = true := by simp only [fits, Bool.and_eq_true, decide_eq_true_eq]; exact ⟨hfL, hft⟩
                have HEf : Hid (encW (some (Lw, tw)) x = [true, false] ++ fieldBits (x / 2 ^ tw) (64 - Lw - tw)) := by
                  show _ = _
                  unfold encW
                  rw [if_neg hx0]
                  simp only [hft2, if_true]
                have HNf : Hid (nextW (some (Lw, tw)) x = some (Lw, tw)) := by show _ = _; rw [nextW, if_neg hx0, if_pos hft2]
                rw [HEf.out, HNf.out] at HE
                have HIn : Hid (x / 2 ^ tw < 18446744073709551616) := by show _ < _; have := Nat.div_le_self x (2 ^ tw); have := HXl.out; omega
                have HIs : Hid (∀ w, Calls Tryz.prog 75 #[.int .u64 (x : Int), .int .i64 (tw : Int)] w fun e w' => e = .returned (.int .u64 ((x / 2 ^ tw : Nat) : Int)) ∧ w' = w) := fun w => ref_inside x tw HXl.out (by have := HWo.out; omega) w
                have hgL : (Lw : Int) ≤ (leadV x : Int) := by omega
                have hgt : (tw : Int) ≤ (trailV x : Int) := by omega
                generalize x / 2 ^ tw = xi at *
                generalize leadV x = ld at *
                generalize trailV x = tr at *
                clear HEf HNf hft2 hfL hft
                have hs2 : (64 : Int) - (Lw : Int) - (tw : Int) = ((64 - Lw - tw : Nat) : Int) := by have := HWo.out; omega
                have HWd : Hid (64 - Lw - tw ≤ 64) := by show _ ≤ _; omega
                have hld : (ld : Int) ≤ 63 := by have := HWin.out; omega
                have htr : (tr : Int) ≤ 63 := by have := HWin.out; omega
                go_wp2_with fail
                refine HZr.out.mono ?_
                rintro en w7 ⟨rfl, hb7⟩
                have HW7 := Lib.hid (HWa.out.below hb7)
                clear hb7 HZr HWa
                have HAl : Hid (RefWrote v B w (Value.slice p0 B.length c0) (w7.alloc (.cells #[.bool true, .bool false] 4))) := HW7.out.below ((Below.refl _ _).alloc (Nat.le_refl _) _)
                have HLi : Hid (Rd (w7.alloc (.cells #[.bool true, .bool false] 4)) 1 (.slice (some ⟨w7.heap.size, 0, none⟩) 2 2) 2 (bls [true, false])) := Rd.of_owns (World.ownsRow_lit (base := 0) w7 #[.bool true, .bool false] 2 (Nat.zero_le _) (by simp [maxLen]) (by simp))
                have HLb : Hid ((B.length + 2) * 1 ≤ 140737488355328 ∧ B.length + 2 ≤ maxLen) := by show _ ∧ _; have := HN.out; unfold maxLen; omega
                have HOne : Hid (∀ u ∈ bls [true, false], u.oneCell' = true) := by intro u hu; simp [bls] at hu; rcases hu with rfl | rfl <;> rfl
                go_wp2_with (at_builtin; refine wpList_extend Tryz.elemBool _ _ _ _ _ _ _ HAl.out.own HLi.out HOne.out HLb.out rfl _ _ rfl rfl rfl ?_)
                intro v8 w8 hown hmods hfr
                have HR8 : Hid (RefWrote v (B ++ [true, false]) w v8 w8) := HAl.out.lit hown hmods (by simpa using hfr)
                clear hown hmods hfr HAl HLi HLb HOne
                obtain ⟨p8, c8, hv8⟩ := (Rd.of_owns HR8.out.own).shape
                subst hv8
                have HL1 : Hid ((B ++ [true, false]).length + 64 ≤ 70368744177664) := by show _ ≤ _; have := HN.out; simp; omega
                have HFe : Hid (B ++ ([true, false] ++ fieldBits xi (64 - Lw - tw)) = (B ++ [true, false]) ++ fieldBits xi (64 - Lw - tw)) := by show _ = _; rw [List.append_assoc]
                generalize B ++ [true, false] = M1 at *
                generalize 64 - Lw - tw = wd at *
                go_wp2_with fail
                refine (HIs.out _).mono ?_
                rintro en wb2 ⟨rfl, rfl⟩
                go_wp2_with fail
                refine (ref_write _ M1 xi wd _ HR8.out.own HIn.out HWd.out HL1.out).mono ?_
                rintro en wc2 ⟨vc, rfl, hR⟩
                have HRc := Lib.hid (HR8.out.then hR)
                clear hR HR8
                go_wp2_with fail
                go_round
                case rel => exact ⟨j + 1, some (Lw, tw), _, by omega, by go_num, rfl, rfl, HE.out _ HFe.out.symm, HRc.out⟩
                case measure => simp [intOf]; omega
              · have hff : fits (some (Lw, tw)) x = false := by simp only [fits, Bool.and_eq_false_iff, decide_eq_false_iff_not]; exact Or.inr hft
                have hgL : (Lw : Int) ≤ (leadV x : Int) := by omega
                have hgt : ¬ (tw : Int) ≤ (trailV x : Int) := by omega
                clear hfL hft
                have HEf : Hid (encW (some (Lw, tw)) x = freshW x) := by
                  show _ = _
                  unfold encW
                  rw [if_neg hx0]
                  simp only [hff, Bool.false_eq_true, if_false]
                have HNf : Hid (nextW (some (Lw, tw)) x = some (leadV x, trailV x)) := by show _ = _; rw [nextW, if_neg hx0, if_neg (by rw [hff]; decide)]
                have HEn : Hid (∀ B', B' = B ++ freshW x → PutAtV bs l (j + 1) (some (leadV x, trailV x)) B') := fun B' e => by have h := HE.out B' (by rw [HEf.out]; exact e); rw [HNf.out] at h; exact h
                have HFr : Hid (freshW x = [true, true] ++ (fieldBits (leadV x) 6 ++ (fieldBits (63 - leadV x - trailV x) 6 ++ fieldBits (x / 2 ^ trailV x) (64 - leadV x - trailV x)))) := rfl
                have HIn : Hid (x / 2 ^ trailV x < 18446744073709551616) := by show _ < _; have := Nat.div_le_self x (2 ^ trailV x); have := HXl.out; omega
                have HIs : Hid (∀ w, Calls Tryz.prog 75 #[.int .u64 (x : Int), .int .i64 (trailV x : Int)] w fun e w' => e = .returned (.int .u64 ((x / 2 ^ trailV x : Nat) : Int)) ∧ w' = w) := fun w => ref_inside x (trailV x) HXl.out (by have := HWin.out; omega) w
                generalize freshW x = FW at *
                generalize x / 2 ^ trailV x = xi at *
                generalize leadV x = ld at *
                generalize trailV x = tr at *
                clear HE HEf HNf hff
                go_wp2_with fail
                refine HZr.out.mono ?_
                rintro en w7 ⟨rfl, hb7⟩
                have HW7 := Lib.hid (HWa.out.below hb7)
                clear hb7 HZr HWa
                have HAl : Hid (RefWrote v B w (Value.slice p0 B.length c0) (w7.alloc (.cells #[.bool true, .bool true] 4))) := HW7.out.below ((Below.refl _ _).alloc (Nat.le_refl _) _)
                have HLi : Hid (Rd (w7.alloc (.cells #[.bool true, .bool true] 4)) 1 (.slice (some ⟨w7.heap.size, 0, none⟩) 2 2) 2 (bls [true, true])) := Rd.of_owns (World.ownsRow_lit (base := 0) w7 #[.bool true, .bool true] 2 (Nat.zero_le _) (by simp [maxLen]) (by simp))
                have HLb : Hid ((B.length + 2) * 1 ≤ 140737488355328 ∧ B.length + 2 ≤ maxLen) := by show _ ∧ _; have := HN.out; unfold maxLen; omega
                have HOne : Hid (∀ u ∈ bls [true, true], u.oneCell' = true) := by intro u hu; simp [bls] at hu; rcases hu with rfl | rfl <;> rfl
                go_wp2_with (at_builtin; refine wpList_extend Tryz.elemBool _ _ _ _ _ _ _ HAl.out.own HLi.out HOne.out HLb.out rfl _ _ rfl rfl rfl ?_)
                intro v8 w8 hown hmods hfr
                have HR8 : Hid (RefWrote v (B ++ [true, true]) w v8 w8) := HAl.out.lit hown hmods (by simpa using hfr)
                clear hown hmods hfr HAl HLi HLb HOne
                obtain ⟨p8, c8, hv8⟩ := (Rd.of_owns HR8.out.own).shape
                subst hv8
                have hwl : IntKind.u64.wrap (ld : Int) = (ld : Int) := by rw [IntKind.wrap_u64]; have := HWin.out; omega
                have hs1 : (63 : Int) - (ld : Int) - (tr : Int) = ((63 - ld - tr : Nat) : Int) := by have := HWin.out; omega
                have hs2 : (64 : Int) - (ld : Int) - (tr : Int) = ((64 - ld - tr : Nat) : Int) := by have := HWin.out; omega
                have hwl2 : IntKind.u64.wrap ((63 - ld - tr : Nat) : Int) = ((63 - ld - tr : Nat) : Int) := by rw [IntKind.wrap_u64]; omega
                have hld : (ld : Int) ≤ 63 := by have := HWin.out; omega
                have htr : (tr : Int) ≤ 63 := by have := HWin.out; omega
                have HL1 : Hid ((B ++ [true, true]).length + 64 ≤ 70368744177664) := by show _ ≤ _; have := HN.out; simp; omega
                have HL2 : Hid (((B ++ [true, true]) ++ fieldBits ld 6).length + 64 ≤ 70368744177664) := by show _ ≤ _; have := HN.out; simp [fieldBits_length]; omega
                have HL3 : Hid ((((B ++ [true, true]) ++ fieldBits ld 6) ++ fieldBits (63 - ld - tr) 6).length + 64 ≤ 70368744177664) := by show _ ≤ _; have := HN.out; simp [fieldBits_length]; omega
                have HFe : Hid (B ++ FW = (((B ++ [true, true]) ++ fieldBits ld 6) ++ fieldBits (63 - ld - tr) 6) ++ fieldBits xi (64 - ld - tr)) := by show _ = _; rw [HFr.out]; simp only [List.append_assoc]
                generalize hM1 : B ++ [true, true] = M1 at *
                generalize hM2 : M1 ++ fieldBits ld 6 = M2 at *
                generalize hM3 : M2 ++ fieldBits (63 - ld - tr) 6 = M3 at *
                have HM2 := Lib.hid hM2
                have HM3 := Lib.hid hM3
                clear hM1 hM2 hM3
                have hW63 : Hid (63 - ld - tr < 18446744073709551616 ∧ ld < 18446744073709551616 ∧ 64 - ld - tr ≤ 64) := by show _ ∧ _; have := HWin.out; omega
                generalize 63 - ld - tr = wm at *
                generalize 64 - ld - tr = wd at *
                go_wp2_with fail
                refine (ref_write _ M1 ld 6 _ HR8.out.own hW63.out.2.1 (by decide) HL1.out).mono ?_
                rintro en w9 ⟨v9, rfl, hR⟩
                have HR9 : Hid (RefWrote v M2 w v9 w9) := by
                  show RefWrote _ _ _ _ _
                  rw [← HM2.out]
                  exact HR8.out.then hR
                obtain ⟨p9, c9, hv9⟩ := (Rd.of_owns HR9.out.own).shape
                subst hv9
                clear hR HR8
                go_wp2_with fail
                refine (ref_write _ M2 wm 6 _ HR9.out.own hW63.out.1 (by decide) HL2.out).mono ?_
                rintro en wa2 ⟨va, rfl, hR⟩
                have HRa : Hid (RefWrote v M3 w va wa2) := by
                  show RefWrote _ _ _ _ _
                  rw [← HM3.out]
                  exact HR9.out.then hR
                obtain ⟨pa, ca, hva⟩ := (Rd.of_owns HRa.out.own).shape
                subst hva
                clear hR HR9
                go_wp2_with fail
                refine (HIs.out _).mono ?_
                rintro en wb2 ⟨rfl, rfl⟩
                go_wp2_with fail
                refine (ref_write _ M3 xi wd _ HRa.out.own HIn.out hW63.out.2.2 HL3.out).mono ?_
                rintro en wc2 ⟨vc, rfl, hR⟩
                have HRc := Lib.hid (HRa.out.then hR)
                clear hR HRa
                go_wp2_with fail
                go_round
                case rel => exact ⟨j + 1, some (ld, tr), _, by omega, by go_num, rfl, rfl, HEn.out _ HFe.out.symm, HRc.out⟩
                case measure => simp [intOf]; omega
            · have hff : fits (some (Lw, tw)) x = false := by simp only [fits, Bool.and_eq_false_iff, decide_eq_false_iff_not]; exact Or.inl hfL
              have hgL : ¬ (Lw : Int) ≤ (leadV x : Int) := by omega
              clear hfL
              have HEf : Hid (encW (some (Lw, tw)) x = freshW x) := by
                show _ = _
                unfold encW
                rw [if_neg hx0]
                simp only [hff, Bool.false_eq_true, if_false]
              have HNf : Hid (nextW (some (Lw, tw)) x = some (leadV x, trailV x)) := by show _ = _; rw [nextW, if_neg hx0, if_neg (by rw [hff]; decide)]
              have HEn : Hid (∀ B', B' = B ++ freshW x → PutAtV bs l (j + 1) (some (leadV x, trailV x)) B') := fun B' e => by have h := HE.out B' (by rw [HEf.out]; exact e); rw [HNf.out] at h; exact h
              have HFr : Hid (freshW x = [true, true] ++ (fieldBits (leadV x) 6 ++ (fieldBits (63 - leadV x - trailV x) 6 ++ fieldBits (x / 2 ^ trailV x) (64 - leadV x - trailV x)))) := rfl
              have HIn : Hid (x / 2 ^ trailV x < 18446744073709551616) := by show _ < _; have := Nat.div_le_self x (2 ^ trailV x); have := HXl.out; omega
              have HIs : Hid (∀ w, Calls Tryz.prog 75 #[.int .u64 (x : Int), .int .i64 (trailV x : Int)] w fun e w' => e = .returned (.int .u64 ((x / 2 ^ trailV x : Nat) : Int)) ∧ w' = w) := fun w => ref_inside x (trailV x) HXl.out (by have := HWin.out; omega) w
              generalize freshW x = FW at *
              generalize x / 2 ^ trailV x = xi at *
              generalize leadV x = ld at *
              generalize trailV x = tr at *
              clear HE HEf HNf hff
              go_wp2_with fail
              refine HZr.out.mono ?_
              rintro en w7 ⟨rfl, hb7⟩
              have HW7 := Lib.hid (HWa.out.below hb7)
              clear hb7 HZr HWa
              have HAl : Hid (RefWrote v B w (Value.slice p0 B.length c0) (w7.alloc (.cells #[.bool true, .bool true] 4))) := HW7.out.below ((Below.refl _ _).alloc (Nat.le_refl _) _)
              have HLi : Hid (Rd (w7.alloc (.cells #[.bool true, .bool true] 4)) 1 (.slice (some ⟨w7.heap.size, 0, none⟩) 2 2) 2 (bls [true, true])) := Rd.of_owns (World.ownsRow_lit (base := 0) w7 #[.bool true, .bool true] 2 (Nat.zero_le _) (by simp [maxLen]) (by simp))
              have HLb : Hid ((B.length + 2) * 1 ≤ 140737488355328 ∧ B.length + 2 ≤ maxLen) := by show _ ∧ _; have := HN.out; unfold maxLen; omega
              have HOne : Hid (∀ u ∈ bls [true, true], u.oneCell' = true) := by intro u hu; simp [bls] at hu; rcases hu with rfl | rfl <;> rfl
              go_wp2_with (at_builtin; refine wpList_extend Tryz.elemBool _ _ _ _ _ _ _ HAl.out.own HLi.out HOne.out HLb.out rfl _ _ rfl rfl rfl ?_)
              intro v8 w8 hown hmods hfr
              have HR8 : Hid (RefWrote v (B ++ [true, true]) w v8 w8) := HAl.out.lit hown hmods (by simpa using hfr)
              clear hown hmods hfr HAl HLi HLb HOne
              obtain ⟨p8, c8, hv8⟩ := (Rd.of_owns HR8.out.own).shape
              subst hv8
              have hwl : IntKind.u64.wrap (ld : Int) = (ld : Int) := by rw [IntKind.wrap_u64]; have := HWin.out; omega
              have hs1 : (63 : Int) - (ld : Int) - (tr : Int) = ((63 - ld - tr : Nat) : Int) := by have := HWin.out; omega
              have hs2 : (64 : Int) - (ld : Int) - (tr : Int) = ((64 - ld - tr : Nat) : Int) := by have := HWin.out; omega
              have hwl2 : IntKind.u64.wrap ((63 - ld - tr : Nat) : Int) = ((63 - ld - tr : Nat) : Int) := by rw [IntKind.wrap_u64]; omega
              have hld : (ld : Int) ≤ 63 := by have := HWin.out; omega
              have htr : (tr : Int) ≤ 63 := by have := HWin.out; omega
              have HL1 : Hid ((B ++ [true, true]).length + 64 ≤ 70368744177664) := by show _ ≤ _; have := HN.out; simp; omega
              have HL2 : Hid (((B ++ [true, true]) ++ fieldBits ld 6).length + 64 ≤ 70368744177664) := by show _ ≤ _; have := HN.out; simp [fieldBits_length]; omega
              have HL3 : Hid ((((B ++ [true, true]) ++ fieldBits ld 6) ++ fieldBits (63 - ld - tr) 6).length + 64 ≤ 70368744177664) := by show _ ≤ _; have := HN.out; simp [fieldBits_length]; omega
              have HFe : Hid (B ++ FW = (((B ++ [true, true]) ++ fieldBits ld 6) ++ fieldBits (63 - ld - tr) 6) ++ fieldBits xi (64 - ld - tr)) := by show _ = _; rw [HFr.out]; simp only [List.append_assoc]
              generalize hM1 : B ++ [true, true] = M1 at *
              generalize hM2 : M1 ++ fieldBits ld 6 = M2 at *
              generalize hM3 : M2 ++ fieldBits (63 - ld - tr) 6 = M3 at *
              have HM2 := Lib.hid hM2
              have HM3 := Lib.hid hM3
              clear hM1 hM2 hM3
              have hW63 : Hid (63 - ld - tr < 18446744073709551616 ∧ ld < 18446744073709551616 ∧ 64 - ld - tr ≤ 64) := by show _ ∧ _; have := HWin.out; omega
              generalize 63 - ld - tr = wm at *
              generalize 64 - ld - tr = wd at *
              go_wp2_with fail
              refine (ref_write _ M1 ld 6 _ HR8.out.own hW63.out.2.1 (by decide) HL1.out).mono ?_
              rintro en w9 ⟨v9, rfl, hR⟩
              have HR9 : Hid (RefWrote v M2 w v9 w9) := by
                show RefWrote _ _ _ _ _
                rw [← HM2.out]
                exact HR8.out.then hR
              obtain ⟨p9, c9, hv9⟩ := (Rd.of_owns HR9.out.own).shape
              subst hv9
              clear hR HR8
              go_wp2_with fail
              refine (ref_write _ M2 wm 6 _ HR9.out.own hW63.out.1 (by decide) HL2.out).mono ?_
              rintro en wa2 ⟨va, rfl, hR⟩
              have HRa : Hid (RefWrote v M3 w va wa2) := by
                show RefWrote _ _ _ _ _
                rw [← HM3.out]
                exact HR9.out.then hR
              obtain ⟨pa, ca, hva⟩ := (Rd.of_owns HRa.out.own).shape
              subst hva
              clear hR HR9
              go_wp2_with fail
              refine (HIs.out _).mono ?_
              rintro en wb2 ⟨rfl, rfl⟩
              go_wp2_with fail
              refine (ref_write _ M3 xi wd _ HRa.out.own HIn.out hW63.out.2.2 HL3.out).mono ?_
              rintro en wc2 ⟨vc, rfl, hR⟩
              have HRc := Lib.hid (HRa.out.then hR)
              clear hR HRa
              go_wp2_with fail
              go_round
              case rel => exact ⟨j + 1, some (ld, tr), _, by omega, by go_num, rfl, rfl, HEn.out _ HFe.out.symm, HRc.out⟩
              case measure => simp [intOf]; omega
    · have hnl : ¬ (j : Int) < (l.length : Int) := by omega
      obtain rfl : j = l.length := by omega
      have HE : Hid (B = bs ++ encV l) := by
        rcases hP with ⟨h0, _, rfl⟩ | ⟨k, last, _, _, _, hBl⟩
        · have : l = [] := List.eq_nil_of_length_eq_zero h0
          subst this
          show B = B ++ []
          rw [List.append_nil]
        · rw [List.drop_length, encFromV, List.append_nil] at hBl
          exact hBl
      rw [HE.out] at HW
      go_wp2_with fail
      go_ret
      exact ⟨_, rfl, HW.out⟩
end Go.Proofs.YtgpmoimmpbkgfaaGreatDoor

end

section
/- Layer 7: the reference's Split. -/
set_option linter.unusedVariables false
namespace Go.Proofs.YtgpmoimmpbkgfaaGreatDoor
open Go Go.RowKit

def n64s (l : List Nat) : List Value := l.map fun x : Nat => .int .i64 (x : Int)
theorem n64s_length (l : List Nat) : (n64s l).length = l.length := by simp [n64s]
theorem n64s_append (a b : List Nat) : n64s (a ++ b) = n64s a ++ n64s b := by simp [n64s]
theorem Tryz.infoInt : (Tryz.prog.info? 3).map (fun i => (i.zero, i.size, i.bytes)) = some (some (.int .i64 0), 1, 8) := by kernel_rfl
theorem Tryz.elemInt : Elem Tryz.prog 125 3 1 8 := Elem.mk' Tryz.underlying125 Tryz.infoInt rfl (by decide)

/-- Two rows of the call's own: the values and the counts of runs. -/
structure TwoRows (w wr : World) (rs : List (Nat × Nat)) (rv rc : Value) : Prop where
  vals : wr.ownsRow w.heap.size 31 1 rv rs.length (u64s (rs.map Prod.fst))
  cnts : wr.ownsRow w.heap.size 3 1 rc rs.length (n64s (rs.map Prod.snd))
  apart : ∀ k, rv.ownBlock = some k → rc.ownBlock ≠ some k
  bel : Below w.heap.size w wr
theorem TwoRows.drewN {w wr : World} {rs : List (Nat × Nat)} {rv rc : Value} (h : TwoRows w wr rs rv rc) (n : Nat) : TwoRows w (wr.drewN n) rs rv rc :=
  ⟨(Mods.drewN (fun _ => False) wr n).owns h.vals (fun _ _ e => e), (Mods.drewN (fun _ => False) wr n).owns h.cnts (fun _ _ e => e), h.apart, h.bel.trans ((Mods.drewN (fun _ => False) wr n).below h.bel.size (fun _ _ e => e))⟩
/-- A value and a count appended, one after the other. -/
theorem TwoRows.pushed {w wr w1 w2 : World} {rs : List (Nat × Nat)} {rv rc v1 v2 : Value} {x : Nat} (h : TwoRows w wr rs rv rc)
    (k1 : w1.ownsRow 0 31 1 v1 (rs.length + 1) (u64s (rs.map Prod.fst) ++ [.int .u64 (x : Int)])) (m1 : Mods (fun k => rv.ownBlock = some k) wr w1) (f1 : Fresh wr.heap.size rv v1)
    (k2 : w2.ownsRow 0 3 1 v2 (rs.length + 1) (n64s (rs.map Prod.snd) ++ [.int .i64 1])) (m2 : Mods (fun k => rc.ownBlock = some k) w1 w2) (f2 : Fresh w1.heap.size rc v2) : TwoRows w w2 (rs ++ [(x, 1)]) v1 v2 := by
  have hlo1 : ∀ k, v1.ownBlock = some k → w.heap.size ≤ k := fun k hk => by
    rcases f1 k hk with e | e
    · exact (h.vals.lt k e).1
    · have := h.bel.size; omega
  have hlo2 : ∀ k, v2.ownBlock = some k → w.heap.size ≤ k := fun k hk => by
    rcases f2 k hk with e | e
    · exact (h.cnts.lt k e).1
    · have := h.bel.size; have := m1.size; omega
  have hd : ∀ k, v1.ownBlock = some k → rc.ownBlock ≠ some k := fun k hk e => by
    rcases f1 k hk with e1 | e1
    · exact h.apart k e1 e
    · have := (h.cnts.lt k e).2; omega
  have hk1 : w2.ownsRow 0 31 1 v1 (rs.length + 1) (u64s (rs.map Prod.fst) ++ [.int .u64 (x : Int)]) := m2.owns k1 (fun k hk e => hd k hk e)
  refine ⟨?_, ?_, fun k hk e => ?_, ?_⟩
  · rw [List.length_append, List.map_append, u64s_append]
    exact owns_rebase hk1 hlo1
  · rw [List.length_append, List.map_append, n64s_append]
    exact owns_rebase k2 hlo2
  · rcases f2 k e with e1 | e1
    · exact hd k hk e1
    · have := (k1.lt k hk).2; omega
  · exact (h.bel.trans (m1.below h.bel.size (fun k hk e => by have := (h.vals.lt k e).1; omega))).trans (m2.below (Nat.le_trans h.bel.size m1.size) (fun k hk e => by have := (h.cnts.lt k e).1; omega))
/-- The last count is one more. -/
theorem TwoRows.bump {w wr : World} {p : List (Nat × Nat)} {v c : Nat} {rv : Value} {g cap : Nat} (h : TwoRows w wr (p ++ [(v, c)]) rv (.slice (some ⟨g, 0, none⟩) (p ++ [(v, c)]).length cap)) :
    TwoRows w (wr.setCell ⟨g, p.length, none⟩ (.int .i64 ((c + 1 : Nat) : Int))) (p ++ [(v, c + 1)]) rv (.slice (some ⟨g, 0, none⟩) (p ++ [(v, c)]).length cap) := by
  have hm : Mods (fun k => k = g) wr (wr.setCell ⟨g, p.length, none⟩ (.int .i64 ((c + 1 : Nat) : Int))) := Mods.set _ _ _ _ (fun _ => rfl)
  have hgv : ∀ k, rv.ownBlock = some k → ¬ k = g := fun k hk e => h.apart k hk (by rw [e]; rfl)
  have hg := (h.cnts.lt g rfl).1
  have hl : (p ++ [(v, c + 1)]).length = (p ++ [(v, c)]).length := by simp
  refine ⟨?_, ?_, h.apart, h.bel.trans (hm.below h.bel.size (fun k hk e => by omega))⟩
  · have e : (p ++ [(v, c + 1)]).map Prod.fst = (p ++ [(v, c)]).map Prod.fst := by simp
    rw [hl, e]
    exact hm.owns h.vals hgv
  · have e : n64s ((p ++ [(v, c + 1)]).map Prod.snd) = (n64s ((p ++ [(v, c)]).map Prod.snd)).set p.length (.int .i64 ((c + 1 : Nat) : Int)) := by
      simp [n64s, List.set_append_right]
    rw [hl, e]
    exact (h.cnts.stored p.length _).1

set_option maxRecDepth 20000 in
set_option maxHeartbeats 4000000 in
theorem ref_split07 (lv : Value) (l : List Nat) (w : World) (hl : Rd w 1 lv l.length (u64s l)) (hn : l.length ≤ 1000000000000) :
    Calls Tryz.prog 76 #[lv] w fun e w' => ∃ rv rc, e = .returned (.tuple #[rv, rc]) ∧ TwoRows w w' (splitR l) rv rc := by
  have HL := Lib.hid hl; have HNn := Lib.hid hn
  obtain ⟨pl, cl, hv⟩ := hl.shape
  subst hv
  clear hl hn
  go_enter Tryz.func76, Tryz.ntmps76
  go_wp2_with fail
  go_loopw [4, 5, 6] (fun vv cv iv wr => ∃ (j : Nat), j ≤ l.length ∧ iv = .int .i64 (j : Int) ∧ Hid (TwoRows w wr (splitR (l.take j)) vv cv)) (fun _ _ iv _ => l.length - (intOf iv).toNat)
  case atStart => exact ⟨0, by omega, rfl, World.ownsRow_nil _ _ _ _, World.ownsRow_nil _ _ _ _, (fun k e => by cases e), Below.refl _ _⟩
  case round =>
    obtain ⟨j, hj, rfl, HTw⟩ := hrel
    by_cases hlt : j < l.length
    · have hlt' : (j : Int) < (l.length : Int) := by omega
      have hji : (j : Int) ≤ 1000000000000 := by have := HNn.out; omega
      have HLr := Lib.hid (HL.out.below HTw.out.bel)
      obtain ⟨b, off, c', e, hnc, hncm, hcell⟩ := HLr.out.at (fun e => by have := congrArg List.length e; rw [u64s_length] at this; simp at this; subst this; simp at hlt)
      simp only [Value.slice.injEq] at e
      obtain ⟨rfl, _, rfl⟩ := e
      obtain ⟨x, hx⟩ : ∃ x, l[j] = x := ⟨_, rfl⟩
      have hct : wr.cell? ⟨b, off + j, none⟩ = some (.int .u64 (x : Int)) := by rw [← hx]; exact hcell j _ (u64s_get l j hlt)
      have HSt : Hid (splitR (l.take (j + 1)) = addR (splitR (l.take j)) x) := by show _ = _; rw [List.take_add_one, List.getElem?_eq_getElem hlt, hx]; exact splitR_push _ _
      have hSl : (splitR (l.take j)).length ≤ 1000000000000 := by have := splitR_len (l.take j); rw [List.length_take] at this; have := HNn.out; omega
      clear hcell hx hnc hncm
      generalize hrs : splitR (l.take j) = rs at *
      clear hrs
      obtain ⟨pv, cv, hvv⟩ := (Rd.of_owns HTw.out.vals).shape
      obtain ⟨pc, cc, hvc⟩ := (Rd.of_owns HTw.out.cnts).shape
      subst hvv; subst hvc
      rcases cases_last rs with rfl | ⟨p, v, c, rfl⟩
      · rw [addR_nil] at HSt
        simp only [List.length_nil] at HTw ⊢
        have HNl0 : Hid (([] : List (Nat × Nat)).length = 0) := rfl
        go_wp2_with fail
        go_quiet (fail)
        have hct2 : (wr.drewN nq).cell? ⟨b, off + j, none⟩ = some (.int .u64 (x : Int)) := hct
        have HTn : Hid (TwoRows w (wr.drewN nq) [] (.slice pv 0 cv) (.slice pc 0 cc)) := HTw.out.drewN _
        clear HTw HLr
        generalize wr.drewN nq = wn at *
        have HLb : Hid (1 * 8 ≤ 140737488355328 ∧ 0 + 1 ≤ maxLen) := by show _ ∧ _; unfold maxLen; omega
        have HOv : Hid (wn.ownsRow 0 31 1 (.slice pv 0 cv) 0 (u64s (([] : List (Nat × Nat)).map Prod.fst))) := by
          have h := owns_rebase HTn.out.vals (base' := 0) (fun _ _ => Nat.zero_le _)
          rw [HNl0.out] at h
          exact h
        have HOc : Hid (∀ w', Mods (fun k => (Value.slice pv 0 cv).ownBlock = some k) wn w' → w'.ownsRow 0 3 1 (.slice pc 0 cc) 0 (n64s (([] : List (Nat × Nat)).map Prod.snd))) := fun w' hm => by
          have h := hm.owns (owns_rebase HTn.out.cnts (base' := 0) (fun _ _ => Nat.zero_le _)) (fun k hk e => HTn.out.apart k e hk)
          rw [HNl0.out] at h
          exact h
        go_wp2_with (at_builtin; refine wpList_push Tryz.elemU64 wn #[.int .u64 (x : Int)] _ _ _ HOv.out rfl (one_cell _ rfl) HLb.out rfl _ _ rfl rfl rfl ?_)
        intro v1 w1 k1 m1 f1
        have K1 := Lib.hid k1; have M1 := Lib.hid m1; have F1 := Lib.hid f1
        have HO1 := Lib.hid (HOc.out _ m1)
        obtain ⟨p1, c1, hv1⟩ := (Rd.of_owns k1).shape
        subst hv1
        clear k1 m1 f1
        go_wp2_with (at_builtin; refine wpList_push Tryz.elemInt w1 #[.int .i64 1] _ _ _ HO1.out rfl (one_cell _ rfl) HLb.out rfl _ _ rfl rfl rfl ?_)
        intro v2 w2 k2 m2 f2
        have HT2 : Hid (TwoRows w w2 (splitR (l.take (j + 1))) (.slice p1 1 c1) v2) := by
          show TwoRows _ _ _ _ _
          rw [HSt.out]
          exact HTn.out.pushed (by rw [HNl0.out]; exact K1.out) M1.out F1.out (by rw [HNl0.out]; exact k2) m2 f2
        obtain ⟨p2, c2, hv2⟩ := (Rd.of_owns k2).shape
        subst hv2
        clear k2 m2 f2 HTn HOv HOc HO1 K1 M1 F1
        go_wp2_with fail
        go_round
        case rel => exact ⟨j + 1, by omega, by go_num, HT2.out⟩
        case measure => simp [intOf]; omega
      · obtain ⟨gv, cv', hvv⟩ : ∃ g cap, (Value.slice pv (p ++ [(v, c)]).length cv) = .slice (some ⟨g, 0, none⟩) (p ++ [(v, c)]).length cap := by
          rcases owns_cases HTw.out.vals with ⟨_, h0, _⟩ | ⟨g, cap, hv, _⟩
          · simp at h0
          · exact ⟨g, cap, hv⟩
        obtain ⟨gc, cc', hvc⟩ : ∃ g cap, (Value.slice pc (p ++ [(v, c)]).length cc) = .slice (some ⟨g, 0, none⟩) (p ++ [(v, c)]).length cap := by
          rcases owns_cases HTw.out.cnts with ⟨_, h0, _⟩ | ⟨g, cap, hv, _⟩
          · simp at h0
          · exact ⟨g, cap, hv⟩
        simp only [Value.slice.injEq] at hvv hvc
        obtain ⟨rfl, _, rfl⟩ := hvv
        obtain ⟨rfl, _, rfl⟩ := hvc
        have hcv : wr.cell? ⟨gv, p.length, none⟩ = some (.int .u64 (v : Int)) := by
          rw [HTw.out.vals.cellAt p.length (by simp)]; simp [u64s]
        have hcc : wr.cell? ⟨gc, p.length, none⟩ = some (.int .i64 (c : Int)) := by
          rw [HTw.out.cnts.cellAt p.length (by simp)]; simp [n64s]
        have hfc : wr.frozen? ⟨gc, p.length, none⟩ = false := HTw.out.cnts.frozenAt _
        have HBm : Hid (∀ nq, TwoRows w ((wr.drewN nq).setCell ⟨gc, p.length, none⟩ (.int .i64 ((c + 1 : Nat) : Int))) (p ++ [(v, c + 1)]) (.slice (some ⟨gv, 0, none⟩) (p ++ [(v, c)]).length cv) (.slice (some ⟨gc, 0, none⟩) (p ++ [(v, c)]).length cc)) := fun nq => (HTw.out.drewN nq).bump
        have hNm0 : (p ++ [(v, c)]).length = p.length + 1 := by simp
        rw [addR_last] at HSt
        obtain ⟨N, hN⟩ : ∃ N, (p ++ [(v, c)]).length = N := ⟨_, rfl⟩
        obtain ⟨m, hm⟩ : ∃ m, p.length = m := ⟨_, rfl⟩
        rw [hN] at HTw HBm hNm0 ⊢
        rw [hm] at hcv hcc hfc hNm0 HBm
        have HNl : Hid ((p ++ [(v, c)]).length = N) := hN
        have hNi : (N : Int) - 1 = (m : Int) := by omega
        have hmN : (m : Int) < (N : Int) := by omega
        have hm0 : (0 : Int) ≤ (m : Int) := by omega
        have hN5 : N ≤ 1000000000000 := by rw [← hN]; exact hSl
        clear hSl hNm0 hm hN
        have HN5 : Hid (N ≤ 1000000000000) := hN5
        have hmi : (m : Int) ≤ 1000000000000 := by omega
        clear hN5
        by_cases hvx : v = x
        · subst hvx
          by_cases hc : c < 128
          · have hc' : (c : Int) < 128 := by omega
            rw [if_pos ⟨rfl, hc⟩] at HSt
            clear hc
            go_wp2_with fail
            go_quiet (fail)
            have HB2 : Hid (TwoRows w ((wr.drewN nq).setCell ⟨gc, m, none⟩ (.int .i64 ((c : Int) + 1))) (p ++ [(v, c + 1)]) (.slice (some ⟨gv, 0, none⟩) N cv) (.slice (some ⟨gc, 0, none⟩) N cc)) := HBm.out nq
            have hcc2 : (wr.drewN nq).cell? ⟨gc, m, none⟩ = some (.int .i64 (c : Int)) := hcc
            have hfc2 : (wr.drewN nq).frozen? ⟨gc, m, none⟩ = false := hfc
            clear HTw HLr HBm hcc hfc hcv hct
            generalize wr.drewN nq = wn at *
            go_wp2_with fail
            go_round
            case rel => exact ⟨j + 1, by omega, by go_num, by rw [HSt.out]; exact HB2.out⟩
            case measure => simp [intOf]; omega
          · have hc' : ¬ (c : Int) < 128 := by omega
            rw [if_neg (fun h => hc h.2)] at HSt
            clear hc
            go_wp2_with fail
            go_quiet (fail)
            have hct2 : (wr.drewN nq).cell? ⟨b, off + j, none⟩ = some (.int .u64 (v : Int)) := hct
            have HTn : Hid (TwoRows w (wr.drewN nq) (p ++ [(v, c)]) (.slice (some ⟨gv, 0, none⟩) N cv) (.slice (some ⟨gc, 0, none⟩) N cc)) := HTw.out.drewN _
            clear HTw HLr
            clear hcv hcc hfc hct hNi hmN hm0 hmi HBm
            generalize wr.drewN nq = wn at *
            have HLb : Hid ((N + 1) * 8 ≤ 140737488355328 ∧ N + 1 ≤ maxLen) := by show _ ∧ _; have := HN5.out; unfold maxLen; omega
            obtain ⟨VS, hVS⟩ : ∃ VS, u64s ((p ++ [(v, c)]).map Prod.fst) = VS := ⟨_, rfl⟩
            obtain ⟨CS, hCS⟩ : ∃ CS, n64s ((p ++ [(v, c)]).map Prod.snd) = CS := ⟨_, rfl⟩
            have HVS := Lib.hid hVS; have HCS := Lib.hid hCS
            clear hVS hCS
            have HOv : Hid (wn.ownsRow 0 31 1 (.slice (some ⟨gv, 0, none⟩) N cv) N VS) := by
              have h := owns_rebase HTn.out.vals (base' := 0) (fun _ _ => Nat.zero_le _)
              rw [HNl.out, HVS.out] at h
              exact h
            have HOc : Hid (∀ w', Mods (fun k => (Value.slice (some ⟨gv, 0, none⟩) N cv).ownBlock = some k) wn w' → w'.ownsRow 0 3 1 (.slice (some ⟨gc, 0, none⟩) N cc) N CS) := fun w' hm => by
              have h := hm.owns (owns_rebase HTn.out.cnts (base' := 0) (fun _ _ => Nat.zero_le _)) (fun k hk e => HTn.out.apart k e hk)
              rw [HNl.out, HCS.out] at h
              exact h
            go_wp2_with (at_builtin; refine wpList_push Tryz.elemU64 wn #[.int .u64 (v : Int)] _ _ _ HOv.out rfl (one_cell _ rfl) HLb.out rfl _ _ rfl rfl rfl ?_)
            intro v1 w1 k1 m1 f1
            have K1 := Lib.hid k1; have M1 := Lib.hid m1; have F1 := Lib.hid f1
            have HO1 := Lib.hid (HOc.out _ m1)
            obtain ⟨p1, c1, hv1⟩ := (Rd.of_owns k1).shape
            subst hv1
            clear k1 m1 f1
            go_wp2_with (at_builtin; refine wpList_push Tryz.elemInt w1 #[.int .i64 1] _ _ _ HO1.out rfl (one_cell _ rfl) HLb.out rfl _ _ rfl rfl rfl ?_)
            intro v2 w2 k2 m2 f2
            have HT2 : Hid (TwoRows w w2 (splitR (l.take (j + 1))) (.slice p1 (N + 1) c1) v2) := by
              show TwoRows _ _ _ _ _
              rw [HSt.out]
              exact HTn.out.pushed (by rw [HNl.out, HVS.out]; exact K1.out) M1.out F1.out (by rw [HNl.out, HCS.out]; exact k2) m2 f2
            obtain ⟨p2, c2, hv2⟩ := (Rd.of_owns k2).shape
            subst hv2
            clear k2 m2 f2 HTn HOv HOc HO1 K1 M1 F1
            go_wp2_with fail
            go_round
            case rel => exact ⟨j + 1, by omega, by go_num, HT2.out⟩
            case measure => simp [intOf]; omega
        · have hvb : ((v : Int) == (x : Int)) = false := by rw [beq_eq_false_iff_ne]; omega
          have hvn : ¬ (v : Int) = (x : Int) := by omega
          rw [if_neg (fun h => hvx h.1)] at HSt
          clear hvx
          go_wp2_with fail
          go_quiet (fail)
          have hct2 : (wr.drewN nq).cell? ⟨b, off + j, none⟩ = some (.int .u64 (x : Int)) := hct
          have HTn : Hid (TwoRows w (wr.drewN nq) (p ++ [(v, c)]) (.slice (some ⟨gv, 0, none⟩) N cv) (.slice (some ⟨gc, 0, none⟩) N cc)) := HTw.out.drewN _
          clear HTw HLr
          generalize wr.drewN nq = wn at *
          have HLb : Hid ((N + 1) * 8 ≤ 140737488355328 ∧ N + 1 ≤ maxLen) := by show _ ∧ _; have := HN5.out; unfold maxLen; omega
          obtain ⟨VS, hVS⟩ : ∃ VS, u64s ((p ++ [(v, c)]).map Prod.fst) = VS := ⟨_, rfl⟩
          obtain ⟨CS, hCS⟩ : ∃ CS, n64s ((p ++ [(v, c)]).map Prod.snd) = CS := ⟨_, rfl⟩
          have HVS := Lib.hid hVS; have HCS := Lib.hid hCS
          clear hVS hCS
          have HOv : Hid (wn.ownsRow 0 31 1 (.slice (some ⟨gv, 0, none⟩) N cv) N VS) := by
            have h := owns_rebase HTn.out.vals (base' := 0) (fun _ _ => Nat.zero_le _)
            rw [HNl.out, HVS.out] at h
            exact h
          have HOc : Hid (∀ w', Mods (fun k => (Value.slice (some ⟨gv, 0, none⟩) N cv).ownBlock = some k) wn w' → w'.ownsRow 0 3 1 (.slice (some ⟨gc, 0, none⟩) N cc) N CS) := fun w' hm => by
            have h := hm.owns (owns_rebase HTn.out.cnts (base' := 0) (fun _ _ => Nat.zero_le _)) (fun k hk e => HTn.out.apart k e hk)
            rw [HNl.out, HCS.out] at h
            exact h
          go_wp2_with (at_builtin; refine wpList_push Tryz.elemU64 wn #[.int .u64 (x : Int)] _ _ _ HOv.out rfl (one_cell _ rfl) HLb.out rfl _ _ rfl rfl rfl ?_)
          intro v1 w1 k1 m1 f1
          have K1 := Lib.hid k1; have M1 := Lib.hid m1; have F1 := Lib.hid f1
          have HO1 := Lib.hid (HOc.out _ m1)
          obtain ⟨p1, c1, hv1⟩ := (Rd.of_owns k1).shape
          subst hv1
          clear k1 m1 f1
          go_wp2_with (at_builtin; refine wpList_push Tryz.elemInt w1 #[.int .i64 1] _ _ _ HO1.out rfl (one_cell _ rfl) HLb.out rfl _ _ rfl rfl rfl ?_)
          intro v2 w2 k2 m2 f2
          have HT2 : Hid (TwoRows w w2 (splitR (l.take (j + 1))) (.slice p1 (N + 1) c1) v2) := by
            show TwoRows _ _ _ _ _
            rw [HSt.out]
            exact HTn.out.pushed (by rw [HNl.out, HVS.out]; exact K1.out) M1.out F1.out (by rw [HNl.out, HCS.out]; exact k2) m2 f2
          obtain ⟨p2, c2, hv2⟩ := (Rd.of_owns k2).shape
          subst hv2
          clear k2 m2 f2 HTn HOv HOc HO1 K1 M1 F1
          go_wp2_with fail
          go_round
          case rel => exact ⟨j + 1, by omega, by go_num, HT2.out⟩
          case measure => simp [intOf]; omega
    · have hlt' : ¬ (j : Int) < (l.length : Int) := by omega
      have HD : Hid (splitR (l.take j) = splitR l) := by show _ = _; rw [List.take_of_length_le (by omega)]
      rw [HD.out] at HTw
      go_wp2_with fail
      go_ret2
      exact ⟨_, _, rfl, HTw.out⟩
end Go.Proofs.YtgpmoimmpbkgfaaGreatDoor

end

section
/- Layer 7: the reference's Put. -/
set_option linter.unusedVariables false
namespace Go.Proofs.YtgpmoimmpbkgfaaGreatDoor
open Go Go.RowKit

set_option maxRecDepth 10000 in
set_option maxHeartbeats 4000000 in
theorem ref_put07 (v lv : Value) (bs : List Bool) (l : List Nat) (w : World) (h : BitsIn w v bs) (hl : Rd w 1 lv l.length (u64s l)) (hin : ∀ t ∈ l, in64u t) (hap : l ≠ [] → ∀ k, lv.ownBlock = some k → v.ownBlock ≠ some k) (hz : bs.length + 71 * l.length ≤ 70368744177000) :
    Calls Tryz.prog 46 #[v, lv] w fun e w' => ∃ v', e = .returned v' ∧ RefWrote v (bs ++ encR l) w v' w' := by
  have H := Lib.hid h
  have HS := Lib.hid (ref_split07 lv l w hl (by omega))
  have HCh := Lib.hid (chain_splitR hin)
  have HE : Hid (encR l = (splitR l).flatMap encRun) := rfl
  have HZ : Hid (bs.length + 71 * (splitR l).length ≤ 70368744177000) := by show _ ≤ _; have := splitR_len l; omega
  have HVl : Hid (∀ k, v.ownBlock = some k → k < w.heap.size) := owns_lt h
  obtain ⟨pl, cl, hv⟩ := hl.shape
  subst hv
  obtain ⟨p0, c0, hv0⟩ := (Rd.of_owns h).shape
  subst hv0
  clear h hl hin hap hz
  generalize splitR l = rs at *
  go_enter Tryz.func46, Tryz.ntmps46
  go_wp2_with fail
  refine HS.out.mono ?_
  rintro e w1 ⟨rv, rc, rfl, hT⟩
  have HT := Lib.hid hT
  have HW1 : Hid (RefWrote (.slice p0 bs.length c0) bs w1 (.slice p0 bs.length c0) w1) := ⟨(Mods.of_below hT.bel (fun _ => False)).owns H.out (fun _ _ e => e), Mods.refl _ _, Fresh.refl _ _⟩
  obtain ⟨pv, cv, hvv⟩ := (Rd.of_owns hT.vals).shape
  obtain ⟨pc, cc, hvc⟩ := (Rd.of_owns hT.cnts).shape
  subst hvv; subst hvc
  have HApart : Hid (∀ g, w.heap.size ≤ g → ¬ (Value.slice p0 bs.length c0).ownBlock = some g) := fun g hg e => by have := HVl.out g e; omega
  clear hT HS
  go_wp2_with fail
  go_loopw [0, 7] (fun v2 iv wr => ∃ (i : Nat) (B : List Bool), i ≤ rs.length ∧ iv = .int .i64 (i : Int) ∧ Hid (B = bs ++ (rs.take i).flatMap encRun) ∧ Hid (RefWrote (.slice p0 bs.length c0) B w1 v2 wr)) (fun _ iv _ => rs.length - (intOf iv).toNat)
  case atStart => exact ⟨0, bs, by omega, rfl, by show _ = _; simp, HW1.out⟩
  case round =>
    obtain ⟨i, B, hi, rfl, HB, HW⟩ := hrel
    obtain ⟨p2, c2, hv2⟩ := (Rd.of_owns HW.out.own).shape
    subst hv2
    by_cases hlt : i < rs.length
    · have hlt' : (i : Int) < (rs.length : Int) := by omega
      have hib : (i : Int) ≤ 70368744177000 := by have := HZ.out; omega
      have HVr : Hid (wr.ownsRow w.heap.size 31 1 (.slice pv rs.length cv) rs.length (u64s (rs.map Prod.fst))) := HW.out.mods.owns HT.out.vals (fun k hk e => HApart.out k (HT.out.vals.lt k hk).1 e)
      have HCr : Hid (wr.ownsRow w.heap.size 3 1 (.slice pc rs.length cc) rs.length (n64s (rs.map Prod.snd))) := HW.out.mods.owns HT.out.cnts (fun k hk e => HApart.out k (HT.out.cnts.lt k hk).1 e)
      obtain ⟨gv, cv', hvv⟩ : ∃ g cap, (Value.slice pv rs.length cv) = .slice (some ⟨g, 0, none⟩) rs.length cap := by
        rcases owns_cases HVr.out with ⟨_, h0, _⟩ | ⟨g, cap, hv, _⟩
        · omega
        · exact ⟨g, cap, hv⟩
      obtain ⟨gc, cc', hvc⟩ : ∃ g cap, (Value.slice pc rs.length cc) = .slice (some ⟨g, 0, none⟩) rs.length cap := by
        rcases owns_cases HCr.out with ⟨_, h0, _⟩ | ⟨g, cap, hv, _⟩
        · omega
        · exact ⟨g, cap, hv⟩
      simp only [Value.slice.injEq] at hvv hvc
      obtain ⟨rfl, _, rfl⟩ := hvv
      obtain ⟨rfl, _, rfl⟩ := hvc
      obtain ⟨x, c, hxc⟩ : ∃ x c, rs[i] = (x, c) := ⟨_, _, rfl⟩
      have hg : rs[i]? = some (x, c) := by rw [List.getElem?_eq_getElem hlt, hxc]
      obtain ⟨hc1, hc2, hx64⟩ : runOk (x, c) := chain_all HCh.out _ (hxc ▸ List.getElem_mem hlt)
      have hcv : wr.cell? ⟨gv, i, none⟩ = some (.int .u64 (x : Int)) := by
        rw [HVr.out.cellAt i (by omega)]; simp [u64s, hg]
      have HCc : Hid (∀ w', Mods (fun k => (Value.slice p2 B.length c2).ownBlock = some k) wr w' → w'.cell? ⟨gc, i, none⟩ = some (.int .i64 (c : Int))) := fun w' hm => by
        have h := hm.owns HCr.out (fun k hk e => by
          rcases HW.out.fresh k e with e1 | e1
          · exact HApart.out k (HCr.out.lt k hk).1 e1
          · have := (HT.out.cnts.lt k hk).2; omega)
        rw [h.cellAt i (by omega)]; simp [n64s, hg]
      have HTk : Hid ((rs.take (i + 1)).flatMap encRun = (rs.take i).flatMap encRun ++ (fieldBits x 64 ++ fieldBits (c - 1) 7)) := by
        show _ = _
        rw [List.take_add_one, hg, List.flatMap_append]; simp [encRun]
      have HBl : Hid (B.length = bs.length + 71 * i) := by show _ = _; rw [HB.out, List.length_append, encRuns_len, List.length_take, Nat.min_eq_left hi]
      have HX := Lib.hid hx64
      have HCb : Hid (1 ≤ c ∧ c ≤ 128) := ⟨hc1, hc2⟩
      clear hg hxc hc1 hc2 hx64
      go_wp2_with fail
      refine (ref_write _ B x 64 _ HW.out.own HX.out (by omega) (by have := HBl.out; have := HZ.out; omega)).mono ?_
      rintro en w7 ⟨v7, rfl, hR⟩
      have hcc := HCc.out w7 hR.mods
      have HR7 : Hid (RefWrote (.slice p0 bs.length c0) (B ++ fieldBits x 64) w1 v7 w7) := HW.out.then hR
      have HB7 : Hid ((B ++ fieldBits x 64).length = bs.length + 71 * i + 64) := by show _ = _; rw [List.length_append, fieldBits_length, HBl.out]
      have HB8 : Hid (B ++ fieldBits x 64 = (bs ++ (rs.take i).flatMap encRun) ++ fieldBits x 64) := by show _ = _; rw [HB.out]
      clear hR HW HVr HCr hcv HCc
      generalize B ++ fieldBits x 64 = B2 at *
      obtain ⟨p7, c7, hv7⟩ := (Rd.of_owns HR7.out.own).shape
      subst hv7
      have hcs : (c : Int) - 1 = ((c - 1 : Nat) : Int) := by have := HCb.out; omega
      have hcw : IntKind.u64.wrap ((c - 1 : Nat) : Int) = ((c - 1 : Nat) : Int) := by rw [IntKind.wrap_u64]; have := HCb.out; omega
      have hcb : (c : Int) ≤ 128 := by have := HCb.out; omega
      have HC7 : Hid (c - 1 < 18446744073709551616) := by show _ < _; have := HCb.out; omega
      generalize c - 1 = c7' at *
      go_wp2_with fail
      refine (ref_write _ _ c7' 7 _ HR7.out.own HC7.out (by omega) (by have := HB7.out; have := HZ.out; omega)).mono ?_
      rintro en w8 ⟨v8, rfl, hR⟩
      have HR8 : Hid (RefWrote (.slice p0 bs.length c0) (B2 ++ fieldBits c7' 7) w1 v8 w8) := HR7.out.then hR
      have HB9 : Hid (B2 ++ fieldBits c7' 7 = bs ++ ((rs.take i).flatMap encRun ++ (fieldBits x 64 ++ fieldBits c7' 7))) := by show _ = _; rw [HB8.out]; simp [List.append_assoc]
      clear hR HR7
      generalize B2 ++ fieldBits c7' 7 = B3 at *
      obtain ⟨p8, c8, hv8⟩ := (Rd.of_owns HR8.out.own).shape
      subst hv8
      go_wp2_with fail
      go_round
      case rel => exact ⟨i + 1, B3, by omega, by go_num, by show _ = _; rw [HTk.out]; exact HB9.out, HR8.out⟩
      case measure => simp [intOf]; omega
    · have hlt' : ¬ (i : Int) < (rs.length : Int) := by omega
      have HBe : Hid (B = bs ++ encR l) := by show _ = _; rw [HB.out, HE.out, List.take_of_length_le (by omega)]
      go_wp2_with fail
      go_ret
      rw [← HBe.out]
      refine ⟨_, rfl, HW.out.own, (Mods.of_below HT.out.bel _).trans HW.out.mods (fun _ _ e => e), fun k hk => ?_⟩
      rcases HW.out.fresh k hk with e | e
      · exact Or.inl e
      · have := HT.out.bel.size; exact Or.inr (by omega)
end Go.Proofs.YtgpmoimmpbkgfaaGreatDoor

end

section
/- Layer 9: the reference's put, Size, Choose. -/
set_option linter.unusedVariables false
set_option maxRecDepth 20000
namespace Go.Proofs.YtgpmoimmpbkgfaaGreatDoor
open Go Go.RowKit

theorem sizeC_bounds (tag : Nat) (l : List Nat) : -1 ≤ sizeC tag l ∧ sizeC tag l ≤ 8199 + 78 * (l.length : Int) := by
  have := bitsC_len tag l
  rw [sizeC]
  split <;> omega

set_option maxHeartbeats 2000000 in
theorem ref_put09 (tag : Nat) (ht : tag = 1 ∨ tag = 2 ∨ tag = 3) (v lv : Value) (bs : List Bool) (l : List Nat) (w : World) (h : BitsIn w v bs) (hl : Rd w 1 lv l.length (u64s l)) (hin : ∀ t ∈ l, in64u t) (hap : l ≠ [] → ∀ k, lv.ownBlock = some k → v.ownBlock ≠ some k) (hn : l.length ≤ 1000000) (hz : bs.length ≤ 1000000000) :
    Calls Tryz.prog 24 #[v, .int .i64 (tag : Int), lv] w fun e w' => ∃ v', e = .returned (.tuple #[v', .bool (okC tag l)]) ∧ RefWrote v (bs ++ bitsC tag l) w v' w' := by
  rcases ht with rfl | rfl | rfl
  · have HP := Lib.hid (ref_put06 v lv bs l w h hl hin hap (by omega))
    clear h hl hin hap hn hz
    go_enter Tryz.func24, Tryz.ntmps24
    go_wp2_with fail
    refine HP.out.mono ?_
    rintro e w1 ⟨v1, rfl, hR⟩
    go_wp2_with fail
    go_ret2
    exact ⟨_, rfl, hR⟩
  · have HP := Lib.hid (ref_put07 v lv bs l w h hl hin hap (by omega))
    clear h hl hin hap hn hz
    go_enter Tryz.func24, Tryz.ntmps24
    go_wp2_with fail
    refine HP.out.mono ?_
    rintro e w1 ⟨v1, rfl, hR⟩
    go_wp2_with fail
    go_ret2
    exact ⟨_, rfl, hR⟩
  · have HP := Lib.hid (ref_put08 v lv bs l w h hl hin hap (by omega) (by omega))
    clear h hl hin hap hn hz
    go_enter Tryz.func24, Tryz.ntmps24
    go_wp2_with fail
    refine HP.out.mono ?_
    rintro e w1 ⟨v1, rfl, hR⟩
    go_wp2_with fail
    go_ret2
    exact ⟨_, rfl, hR⟩

set_option maxHeartbeats 2000000 in
theorem ref_size09 (tag : Nat) (ht : tag = 1 ∨ tag = 2 ∨ tag = 3) (lv : Value) (l : List Nat) (w : World) (hl : Rd w 1 lv l.length (u64s l)) (hin : ∀ t ∈ l, in64u t) (hn : l.length ≤ 1000000) :
    Calls Tryz.prog 10 #[.int .i64 (tag : Int), lv] w fun e w' => e = .returned (.int .i64 (sizeC tag l)) ∧ Below w.heap.size w w' := by
  have HP := Lib.hid (ref_put09 tag ht (.slice none 0 0) lv [] l w (World.ownsRow_nil _ _ _ _) hl hin (fun _ k _ e => by cases e) hn (by simp))
  have HZ : Hid (sizeC tag l = if okC tag l = true then ((bitsC tag l).length : Int) else -1) := rfl
  rw [List.nil_append] at HP
  clear hl hin hn ht
  go_enter Tryz.func10, Tryz.ntmps10
  go_wp2_with fail
  refine HP.out.mono ?_
  rintro e w1 ⟨v1, rfl, hR⟩
  have HB : Hid (Below w.heap.size w w1) := hR.mods.below (Nat.le_refl _) (fun k _ e => by cases e)
  obtain ⟨p1, c1, hv1⟩ := (Rd.of_owns hR.own).shape
  subst hv1
  clear hR HP
  generalize (bitsC tag l).length = N at *
  cases hk : okC tag l with
  | true =>
    have HZ2 := HZ.out
    rw [hk, if_pos rfl] at HZ2
    have HZ3 := Lib.hid HZ2
    clear hk HZ2
    go_wp2_with fail
    go_ret
    exact ⟨by rw [HZ3.out]; rfl, HB.out⟩
  | false =>
    have HZ2 := HZ.out
    rw [hk, if_neg (by decide)] at HZ2
    have HZ3 := Lib.hid HZ2
    clear hk HZ2
    go_wp2_with fail
    go_ret
    exact ⟨by rw [HZ3.out]; rfl, HB.out⟩

set_option maxHeartbeats 2000000 in
theorem ref_choose09 (lv : Value) (l : List Nat) (w : World) (hl : Rd w 1 lv l.length (u64s l)) (hin : ∀ t ∈ l, in64u t) (hn : l.length ≤ 1000000) :
    Calls Tryz.prog 13 #[lv] w fun e w' => e = .returned (.int .i64 (chooseC l : Int)) ∧ Below w.heap.size w w' := by
  have HL := Lib.hid hl; have HIn := Lib.hid hin; have HN := Lib.hid hn
  obtain ⟨pl, cl, hv⟩ := hl.shape
  subst hv
  have HS : Hid (∀ tag w1, (tag = 1 ∨ tag = 2 ∨ tag = 3) → Below w.heap.size w w1 → Calls Tryz.prog 10 #[.int .i64 ((tag : Nat) : Int), .slice pl l.length cl] w1 fun e w' => e = .returned (.int .i64 (sizeC tag l)) ∧ Below w1.heap.size w1 w') := fun tag w1 ht hb => ref_size09 tag ht _ l w1 (HL.out.below hb) HIn.out HN.out
  have HC : Hid (chooseC l = if sizeC 2 l < sizeC 1 l then (if 0 ≤ sizeC 3 l ∧ sizeC 3 l < sizeC 2 l then 3 else 2) else (if 0 ≤ sizeC 3 l ∧ sizeC 3 l < sizeC 1 l then 3 else 1)) := rfl
  have h1 := sizeC_bounds 1 l; have h2 := sizeC_bounds 2 l; have h3 := sizeC_bounds 3 l
  have H2 : Hid (0 ≤ sizeC 2 l) := by show _ ≤ _; rw [sizeC, if_pos (show okC 2 l = true from rfl)]; omega
  have hs1 : Calls Tryz.prog 10 #[.int .i64 1, .slice pl l.length cl] w fun e w' => e = .returned (.int .i64 (sizeC 1 l)) ∧ Below w.heap.size w w' := HS.out 1 w (Or.inl rfl) (Below.refl _ _)
  have HS1 := Lib.hid hs1
  clear hl hin hn hs1
  generalize hA : sizeC 1 l = a at *
  generalize hB : sizeC 2 l = b at *
  generalize hD : sizeC 3 l = c at *
  have HA := Lib.hid hA; have HB := Lib.hid hB; have HD := Lib.hid hD
  clear hA hB hD
  go_enter Tryz.func13, Tryz.ntmps13
  go_wp2_with fail
  refine HS1.out.mono ?_
  rintro e w1 ⟨rfl, hB⟩
  have HB1 := Lib.hid hB
  clear hB
  go_wp2_with fail
  have hi1 : -1 ≤ a ∧ a ≤ 100000000 := by have := HN.out; omega
  have hi2 : -1 ≤ b ∧ b ≤ 100000000 := by have := HN.out; omega
  have hi3 : -1 ≤ c ∧ c ≤ 100000000 := by have := HN.out; omega
  have HS2 : Hid (∀ w1, Below w.heap.size w w1 → Calls Tryz.prog 10 #[.int .i64 2, .slice pl l.length cl] w1 fun e w' => e = .returned (.int .i64 b) ∧ Below w1.heap.size w1 w') := fun w1 hb => by
    have := HS.out 2 w1 (Or.inr (Or.inl rfl)) hb
    rw [HB.out] at this
    exact this
  have HS3 : Hid (∀ w1, Below w.heap.size w w1 → Calls Tryz.prog 10 #[.int .i64 3, .slice pl l.length cl] w1 fun e w' => e = .returned (.int .i64 c) ∧ Below w1.heap.size w1 w') := fun w1 hb => by
    have := HS.out 3 w1 (Or.inr (Or.inr rfl)) hb
    rw [HD.out] at this
    exact this
  clear h1 h2 h3 HS HS1 HA HB HD
  go_loopw [3, 4, 5] (fun bv mv tv wr => Hid (Below w.heap.size w wr) ∧ ((tv = .int .i64 2 ∧ bv = .int .i64 1 ∧ mv = .int .i64 a) ∨ (tv = .int .i64 3 ∧ ((b < a ∧ bv = .int .i64 2 ∧ mv = .int .i64 b) ∨ (¬ b < a ∧ bv = .int .i64 1 ∧ mv = .int .i64 a))) ∨ (tv = .int .i64 4 ∧ bv = .int .i64 (chooseC l : Int)))) (fun _ _ tv _ => 4 - (intOf tv).toNat)
  case atStart => exact ⟨HB1.out, Or.inl ⟨rfl, rfl, rfl⟩⟩
  case round =>
    obtain ⟨HBw, hrel⟩ := hrel
    rcases hrel with ⟨rfl, rfl, rfl⟩ | ⟨rfl, hrel⟩ | ⟨rfl, rfl⟩
    · have hb0 : 0 ≤ b := H2.out
      by_cases hba : b < a
      · go_wp2_with fail
        refine (HS2.out _ HBw.out).mono ?_
        rintro e w2 ⟨rfl, hB⟩
        have HB2 := Lib.hid (HBw.out.trans (hB.mono HBw.out.size))
        clear hB
        go_wp2_with fail
        go_round
        case rel => exact ⟨HB2.out, Or.inr (Or.inl ⟨rfl, Or.inl ⟨by omega, rfl, rfl⟩⟩)⟩
        case measure => simp [intOf]
      · go_wp2_with fail
        refine (HS2.out _ HBw.out).mono ?_
        rintro e w2 ⟨rfl, hB⟩
        have HB2 := Lib.hid (HBw.out.trans (hB.mono HBw.out.size))
        clear hB
        go_wp2_with fail
        go_round
        case rel => exact ⟨HB2.out, Or.inr (Or.inl ⟨rfl, Or.inr ⟨by omega, rfl, rfl⟩⟩)⟩
        case measure => simp [intOf]
    · rcases hrel with ⟨hba, rfl, rfl⟩ | ⟨hba, rfl, rfl⟩
      · by_cases h0 : 0 ≤ c
        · by_cases hc : c < b
          · skip
            have HF : Hid (chooseC l = 3) := by show _ = _; rw [HC.out]; rw [if_pos hba, if_pos ⟨h0, hc⟩]
            go_wp2_with fail
            refine (HS3.out _ HBw.out).mono ?_
            rintro e w2 ⟨rfl, hB⟩
            have HB2 := Lib.hid (HBw.out.trans (hB.mono HBw.out.size))
            clear hB
            go_wp2_with fail
            go_round
            case rel => exact ⟨HB2.out, Or.inr (Or.inr ⟨rfl, by rw [HF.out]; rfl⟩)⟩
            case measure => simp [intOf]
          · skip
            have HF : Hid (chooseC l = 2) := by show _ = _; rw [HC.out]; rw [if_pos hba, if_neg (fun h => hc h.2)]
            go_wp2_with fail
            refine (HS3.out _ HBw.out).mono ?_
            rintro e w2 ⟨rfl, hB⟩
            have HB2 := Lib.hid (HBw.out.trans (hB.mono HBw.out.size))
            clear hB
            go_wp2_with fail
            go_round
            case rel => exact ⟨HB2.out, Or.inr (Or.inr ⟨rfl, by rw [HF.out]; rfl⟩)⟩
            case measure => simp [intOf]
        · skip
          have HF : Hid (chooseC l = 2) := by show _ = _; rw [HC.out]; rw [if_pos hba, if_neg (fun h => h0 h.1)]
          go_wp2_with fail
          refine (HS3.out _ HBw.out).mono ?_
          rintro e w2 ⟨rfl, hB⟩
          have HB2 := Lib.hid (HBw.out.trans (hB.mono HBw.out.size))
          clear hB
          go_wp2_with fail
          go_round
          case rel => exact ⟨HB2.out, Or.inr (Or.inr ⟨rfl, by rw [HF.out]; rfl⟩)⟩
          case measure => simp [intOf]
      · by_cases h0 : 0 ≤ c
        · by_cases hc : c < a
          · skip
            have HF : Hid (chooseC l = 3) := by show _ = _; rw [HC.out]; rw [if_neg hba, if_pos ⟨h0, hc⟩]
            go_wp2_with fail
            refine (HS3.out _ HBw.out).mono ?_
            rintro e w2 ⟨rfl, hB⟩
            have HB2 := Lib.hid (HBw.out.trans (hB.mono HBw.out.size))
            clear hB
            go_wp2_with fail
            go_round
            case rel => exact ⟨HB2.out, Or.inr (Or.inr ⟨rfl, by rw [HF.out]; rfl⟩)⟩
            case measure => simp [intOf]
          · skip
            have HF : Hid (chooseC l = 1) := by show _ = _; rw [HC.out]; rw [if_neg hba, if_neg (fun h => hc h.2)]
            go_wp2_with fail
            refine (HS3.out _ HBw.out).mono ?_
            rintro e w2 ⟨rfl, hB⟩
            have HB2 := Lib.hid (HBw.out.trans (hB.mono HBw.out.size))
            clear hB
            go_wp2_with fail
            go_round
            case rel => exact ⟨HB2.out, Or.inr (Or.inr ⟨rfl, by rw [HF.out]; rfl⟩)⟩
            case measure => simp [intOf]
        · skip
          have HF : Hid (chooseC l = 1) := by show _ = _; rw [HC.out]; rw [if_neg hba, if_neg (fun h => h0 h.1)]
          go_wp2_with fail
          refine (HS3.out _ HBw.out).mono ?_
          rintro e w2 ⟨rfl, hB⟩
          have HB2 := Lib.hid (HBw.out.trans (hB.mono HBw.out.size))
          clear hB
          go_wp2_with fail
          go_round
          case rel => exact ⟨HB2.out, Or.inr (Or.inr ⟨rfl, by rw [HF.out]; rfl⟩)⟩
          case measure => simp [intOf]
    · go_wp2_with fail
      go_ret
      exact ⟨rfl, HBw.out⟩
end Go.Proofs.YtgpmoimmpbkgfaaGreatDoor

end
