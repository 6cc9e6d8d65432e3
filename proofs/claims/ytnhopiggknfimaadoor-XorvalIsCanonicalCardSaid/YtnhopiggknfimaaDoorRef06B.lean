/- Layer 6: the reference's Put. -/
import Derived.Test.YtnhopiggknfimaaDoorRef06A
import Derived.Test.YtnhopiggknfimaaDoorTakeR
import Derived.Test.YtnhopiggknfimaaDoorRefW
import Derived.Test.YtnhopiggknfimaaDoorU64
set_option linter.unusedVariables false
namespace Go.Proofs.YtnhopiggknfimaaDoor
open Go Go.RowKit

/-- The window as the reference keeps it. -/
def leadI (win : Option (Nat × Nat)) : Int := match win with
  | none => -1
  | some (L, _) => (L : Int)
def trailI (win : Option (Nat × Nat)) : Int := match win with
  | none => 0
  | some (_, t) => (t : Int)
/-- The bits written so far, and those that are still to be written. -/
def PutAtV (bs : List Bool) (l : List Nat) (j : Nat) (win : Option (Nat × Nat)) (B : List Bool) : Prop :=
  (j = 0 ∧ win = none ∧ B = bs) ∨ (∃ k last, j = k + 1 ∧ l[k]? = some last ∧ okW win ∧ B ++ encFromV win last (l.drop j) = bs ++ encV l)
set_option maxRecDepth 10000 in
set_option maxHeartbeats 4000000 in
theorem ref_put06 (v lv : Value) (bs : List Bool) (l : List Nat) (w : World) (h : BitsIn w v bs) (hl : Rd w 1 lv l.length (u64s l)) (hin : ∀ t ∈ l, in64u t) (hap : l ≠ [] → ∀ k, lv.ownBlock = some k → v.ownBlock ≠ some k) (hz : bs.length + 78 * l.length ≤ 70368744177000) :
    Calls Tryd.prog 13 #[v, lv] w fun e w' => ∃ v', e = .returned v' ∧ RefWrote v (bs ++ encV l) w v' w' := by
  have H := Lib.hid h
  have HL6 := Lib.hid hl
  have HZ := Lib.hid hz
  obtain ⟨pl, cl, hv⟩ := hl.shape
  subst hv
  clear h hl hz
  go_enter Tryd.func13, Tryd.ntmps13
  go_wp2_with fail
  go_loopw [0, 5, 6, 7] (fun v2 lv tv c wr => ∃ (j : Nat) (win : Option (Nat × Nat)) (B : List Bool), j ≤ l.length ∧ c = .int .i64 (j : Int) ∧ lv = .int .i64 (leadI win) ∧ tv = .int .i64 (trailI win) ∧ PutAtV bs l j win B ∧ Hid (RefWrote v B w v2 wr)) (fun _ _ _ c _ => l.length - (intOf c).toNat)
  case atStart => exact ⟨0, none, bs, by omega, rfl, rfl, rfl, Or.inl ⟨rfl, rfl, rfl⟩, H.out, Mods.refl _ _, Fresh.refl _ _⟩
  case round =>
    obtain ⟨j, win, B, hj, rfl, rfl, rfl, hP, HW⟩ := hrel
    by_cases hlt : j < l.length
    · have hlt' : (j : Int) < (l.length : Int) := by omega
      have HLr := Lib.hid (HL6.out.mods HW.out.mods (fun k hk e => hap (fun e0 => by rw [e0] at hlt; simp at hlt) k hk e))
      obtain ⟨b, off, c', e, hnc, hncm, hcell⟩ := HLr.out.at (fun e => by have := congrArg List.length e; rw [u64s_length] at this; simp at this; subst this; simp at hlt)
      simp only [Value.slice.injEq] at e
      obtain ⟨rfl, _, rfl⟩ := e
      obtain ⟨t, ht⟩ : ∃ t, l[j] = t := ⟨_, rfl⟩
      have hct : wr.cell? ⟨b, off + j, none⟩ = some (.int .u64 (t : Int)) := by rw [← ht]; exact hcell j _ (u64s_get l j hlt)
      have hdj : l.drop j = t :: l.drop (j + 1) := by rw [← ht]; exact List.drop_eq_getElem_cons hlt
      have hti : in64u t := ht ▸ hin _ (List.getElem_mem hlt)
      obtain ⟨p0, c0, hv0⟩ := (Rd.of_owns HW.out.own).shape
      subst hv0
      rcases hP with ⟨rfl, rfl, rfl⟩ | ⟨k, last, hjk, hlast, hok, hBl⟩
      · have HE : Hid (∀ B', B' = B ++ fieldBits t 64 → PutAtV B l 1 none B') := fun B' e => by
          refine Or.inr ⟨0, t, rfl, by rw [List.getElem?_eq_getElem hlt, ht], (fun _ _ e => by cases e), ?_⟩
          rw [List.drop_zero] at hdj
          rw [e, List.append_assoc]
          congr 1
          conv => rhs; rw [hdj]
          rw [encV]
        have HN : Hid (B.length + 64 ≤ 70368744177664) := by show _ ≤ _; have := HZ.out; omega
        have hct0 : wr.cell? ⟨b, off, none⟩ = some (.int .u64 (t : Int)) := hct
        have hlt0 : (0 : Int) < (l.length : Int) := hlt'
        have HTi := Lib.hid hti
        clear hdj hcell ht hct hnc hncm hti
        go_wp2_with fail
        refine (ref_write _ B t 64 _ HW.out.own HTi.out (by omega) HN.out).mono ?_
        rintro en w7 ⟨v7, rfl, hR⟩
        have HR : Hid (RefWrote v (B ++ fieldBits t 64) w v7 w7) := HW.out.then hR
        clear hR
        go_wp2_with fail
        go_round
        case rel => exact ⟨1, none, _, by omega, rfl, rfl, rfl, HE.out _ rfl, HR.out⟩
        case measure => simp [intOf]; omega
      · have hkl : k < l.length := by omega
        have hlk : l[k] = last := by rw [List.getElem?_eq_getElem hkl] at hlast; exact Option.some.inj hlast
        have hck : wr.cell? ⟨b, off + k, none⟩ = some (.int .u64 (last : Int)) := hcell k _ (by rw [u64s_get l k hkl, hlk])
        have hla : in64u last := hlk ▸ hin _ (List.getElem_mem hkl)
        have HX : Hid (bits BinOp.xor IntKind.u64 (t : Int) (last : Int) = ((t ^^^ last : Nat) : Int)) := bits_xor_u64_nat t last hti hla
        have HXl : Hid (t ^^^ last < 18446744073709551616) := xor_lt64 hti hla
        rw [hdj, encFromV] at hBl
        have HE : Hid (∀ B', B' = B ++ encW win (t ^^^ last) → PutAtV bs l (j + 1) (nextW win (t ^^^ last)) B') := fun B' e => by
          refine Or.inr ⟨j, t, rfl, by rw [List.getElem?_eq_getElem hlt, ht], okW_next hok HXl.out, ?_⟩
          rw [e, List.append_assoc]; exact hBl
        have HN : Hid (B.length + 78 ≤ 70368744177660) := by
          show _ ≤ _
          have h1 := congrArg List.length hBl
          simp only [List.length_append] at h1
          have h2 := encV_len l
          have := HZ.out
          omega
        have HOk := Lib.hid hok
        have hj1 : (j : Int) - 1 = (k : Int) := by omega
        have hjb2 : ((j : Int) == 0) = false := by rw [beq_eq_false_iff_ne]; omega
        have hk' : (k : Int) < (l.length : Int) := by omega
        have hlm : (l.length : Int) ≤ 9223372036854775807 := by have := HZ.out; omega
        clear hdj hcell ht hlast hBl hjk hkl hlk hok hla hti hnc hncm
        go_wp2_with fail
        go_quiet (fail)
        have HWa : Hid (RefWrote v B w (Value.slice p0 B.length c0) (wr.drewN nq)) := HW.out.drewN _
        clear hct hck HW HLr
        generalize wr.drewN nq = wa at *
        rw [HX.out]
        generalize t ^^^ last = x at *
        clear HX
        by_cases hx0 : x = 0
        · subst hx0
          have hE0 : encW win 0 = [false] := by unfold encW; rw [if_pos rfl]
          have hN0 : nextW win 0 = win := by rw [nextW, if_pos rfl]
          rw [hE0, hN0] at HE
          have HLb : Hid ((B.length + 1) * 1 ≤ 140737488355328 ∧ B.length + 1 ≤ maxLen) := by show _ ∧ _; have := HN.out; unfold maxLen; omega
          clear hE0 hN0
          go_wp2_with (at_builtin; refine wpList_push Tryd.elemBool wa #[.bool false] _ _ _ HWa.out.own rfl (one_cell _ rfl) HLb.out rfl _ _ rfl rfl rfl ?_)
          intro v8 w8 hown hmods hfr
          have HR : Hid (RefWrote v (B ++ [false]) w v8 w8) := HWa.out.lit hown hmods hfr
          clear hown hmods hfr
          go_wp2_with fail
          go_round
          case rel => exact ⟨j + 1, win, _, by omega, by go_num, rfl, rfl, HE.out _ rfl, HR.out⟩
          case measure => simp [intOf]; omega
        · have hxb : ((x : Int) == 0) = false := by rw [beq_eq_false_iff_ne]; omega
          have HZr := Lib.hid (ref_zeros x HXl.out hx0 wa)
          have HWin := Lib.hid (window HXl.out hx0)
          cases win with
          | none =>
            simp only [leadI, trailI]
            have hff : fits none x = false := rfl
            have HEf : Hid (encW none x = freshW x) := by
              show _ = _
              unfold encW
              rw [if_neg hx0]
            have HNf : Hid (nextW none x = some (leadV x, trailV x)) := by show _ = _; rw [nextW, if_neg hx0, if_neg (by rw [hff]; decide)]
            have HEn : Hid (∀ B', B' = B ++ freshW x → PutAtV bs l (j + 1) (some (leadV x, trailV x)) B') := fun B' e => by have h := HE.out B' (by rw [HEf.out]; exact e); rw [HNf.out] at h; exact h
            have HFr : Hid (freshW x = [true, true] ++ (fieldBits (leadV x) 6 ++ (fieldBits (63 - leadV x - trailV x) 6 ++ fieldBits (x / 2 ^ trailV x) (64 - leadV x - trailV x)))) := rfl
            have HIn : Hid (x / 2 ^ trailV x < 18446744073709551616) := by show _ < _; have := Nat.div_le_self x (2 ^ trailV x); have := HXl.out; omega
            have HIs : Hid (∀ w, Calls Tryd.prog 33 #[.int .u64 (x : Int), .int .i64 (trailV x : Int)] w fun e w' => e = .returned (.int .u64 ((x / 2 ^ trailV x : Nat) : Int)) ∧ w' = w) := fun w => ref_inside x (trailV x) HXl.out (by have := HWin.out; omega) w
            generalize freshW x = FW at *
            generalize x / 2 ^ trailV x = xi at *
            generalize leadV x = ld at *
            generalize trailV x = tr at *
            clear HE HEf HNf hff
            go_wp2_with fail
            refine HZr.out.mono ?_
            rintro en w7 ⟨rfl, hb7⟩
            have HW7 := Lib.hid (HWa.out.below hb7)
            clear hb7 HZr HWa
            have HAl : Hid (RefWrote v B w (Value.slice p0 B.length c0) (w7.alloc (.cells #[.bool true, .bool true] 4))) := HW7.out.below ((Below.refl _ _).alloc (Nat.le_refl _) _)
            have HLi : Hid (Rd (w7.alloc (.cells #[.bool true, .bool true] 4)) 1 (.slice (some ⟨w7.heap.size, 0, none⟩) 2 2) 2 (bls [true, true])) := Rd.of_owns (World.ownsRow_lit (base := 0) w7 #[.bool true, .bool true] 2 (Nat.zero_le _) (by simp [maxLen]) (by simp))
            have HLb : Hid ((B.length + 2) * 1 ≤ 140737488355328 ∧ B.length + 2 ≤ maxLen) := by show _ ∧ _; have := HN.out; unfold maxLen; omega
            have HOne : Hid (∀ u ∈ bls [true, true], u.oneCell' = true) := by intro u hu; simp [bls] at hu; rcases hu with rfl | rfl <;> rfl
            go_wp2_with (at_builtin; refine wpList_extend Tryd.elemBool _ _ _ _ _ _ _ HAl.out.own HLi.out HOne.out HLb.out rfl _ _ rfl rfl rfl ?_)
            intro v8 w8 hown hmods hfr
            have HR8 : Hid (RefWrote v (B ++ [true, true]) w v8 w8) := HAl.out.lit hown hmods (by simpa using hfr)
            clear hown hmods hfr HAl HLi HLb HOne
            obtain ⟨p8, c8, hv8⟩ := (Rd.of_owns HR8.out.own).shape
            subst hv8
            have hwl : IntKind.u64.wrap (ld : Int) = (ld : Int) := by rw [IntKind.wrap_u64]; have := HWin.out; omega
            have hs1 : (63 : Int) - (ld : Int) - (tr : Int) = ((63 - ld - tr : Nat) : Int) := by have := HWin.out; omega
            have hs2 : (64 : Int) - (ld : Int) - (tr : Int) = ((64 - ld - tr : Nat) : Int) := by have := HWin.out; omega
            have hwl2 : IntKind.u64.wrap ((63 - ld - tr : Nat) : Int) = ((63 - ld - tr : Nat) : Int) := by rw [IntKind.wrap_u64]; omega
            have hld : (ld : Int) ≤ 63 := by have := HWin.out; omega
            have htr : (tr : Int) ≤ 63 := by have := HWin.out; omega
            have HL1 : Hid ((B ++ [true, true]).length + 64 ≤ 70368744177664) := by show _ ≤ _; have := HN.out; simp; omega
            have HL2 : Hid (((B ++ [true, true]) ++ fieldBits ld 6).length + 64 ≤ 70368744177664) := by show _ ≤ _; have := HN.out; simp [fieldBits_length]; omega
            have HL3 : Hid ((((B ++ [true, true]) ++ fieldBits ld 6) ++ fieldBits (63 - ld - tr) 6).length + 64 ≤ 70368744177664) := by show _ ≤ _; have := HN.out; simp [fieldBits_length]; omega
            have HFe : Hid (B ++ FW = (((B ++ [true, true]) ++ fieldBits ld 6) ++ fieldBits (63 - ld - tr) 6) ++ fieldBits xi (64 - ld - tr)) := by show _ = _; rw [HFr.out]; simp only [List.append_assoc]
            generalize hM1 : B ++ [true, true] = M1 at *
            generalize hM2 : M1 ++ fieldBits ld 6 = M2 at *
            generalize hM3 : M2 ++ fieldBits (63 - ld - tr) 6 = M3 at *
            have HM2 := Lib.hid hM2
            have HM3 := Lib.hid hM3
            clear hM1 hM2 hM3
            have hW63 : Hid (63 - ld - tr < 18446744073709551616 ∧ ld < 18446744073709551616 ∧ 64 - ld - tr ≤ 64) := by show _ ∧ _; have := HWin.out; omega
            generalize 63 - ld - tr = wm at *
            generalize 64 - ld - tr = wd at *
            go_wp2_with fail
            refine (ref_write _ M1 ld 6 _ HR8.out.own hW63.out.2.1 (by decide) HL1.out).mono ?_
            rintro en w9 ⟨v9, rfl, hR⟩
            have HR9 : Hid (RefWrote v M2 w v9 w9) := by
              show RefWrote _ _ _ _ _
              rw [← HM2.out]
              exact HR8.out.then hR
            obtain ⟨p9, c9, hv9⟩ := (Rd.of_owns HR9.out.own).shape
            subst hv9
            clear hR HR8
            go_wp2_with fail
            refine (ref_write _ M2 wm 6 _ HR9.out.own hW63.out.1 (by decide) HL2.out).mono ?_
            rintro en wa2 ⟨va, rfl, hR⟩
            have HRa : Hid (RefWrote v M3 w va wa2) := by
              show RefWrote _ _ _ _ _
              rw [← HM3.out]
              exact HR9.out.then hR
            obtain ⟨pa, ca, hva⟩ := (Rd.of_owns HRa.out.own).shape
            subst hva
            clear hR HR9
            go_wp2_with fail
            refine (HIs.out _).mono ?_
            rintro en wb2 ⟨rfl, rfl⟩
            go_wp2_with fail
            refine (ref_write _ M3 xi wd _ HRa.out.own HIn.out hW63.out.2.2 HL3.out).mono ?_
            rintro en wc2 ⟨vc, rfl, hR⟩
            have HRc := Lib.hid (HRa.out.then hR)
            clear hR HRa
            go_wp2_with fail
            go_round
            case rel => exact ⟨j + 1, some (ld, tr), _, by omega, by go_num, rfl, rfl, HEn.out _ HFe.out.symm, HRc.out⟩
            case measure => simp [intOf]; omega
          | some wn =>
            obtain ⟨Lw, tw⟩ := wn
            simp only [leadI, trailI]
            have HWo : Hid (Lw + tw ≤ 63) := HOk.out Lw tw rfl
            have hLw : (Lw : Int) ≤ 63 := by have := HWo.out; omega
            have htw : (tw : Int) ≤ 63 := by have := HWo.out; omega
            by_cases hfL : Lw ≤ leadV x
            · by_cases hft : tw ≤ trailV x
              · have hft2 : fits (some (Lw, tw)) x = true := by simp only [fits, Bool.and_eq_true, decide_eq_true_eq]; exact ⟨hfL, hft⟩
                have HEf : Hid (encW (some (Lw, tw)) x = [true, false] ++ fieldBits (x / 2 ^ tw) (64 - Lw - tw)) := by
                  show _ = _
                  unfold encW
                  rw [if_neg hx0]
                  simp only [hft2, if_true]
                have HNf : Hid (nextW (some (Lw, tw)) x = some (Lw, tw)) := by show _ = _; rw [nextW, if_neg hx0, if_pos hft2]
                rw [HEf.out, HNf.out] at HE
                have HIn : Hid (x / 2 ^ tw < 18446744073709551616) := by show _ < _; have := Nat.div_le_self x (2 ^ tw); have := HXl.out; omega
                have HIs : Hid (∀ w, Calls Tryd.prog 33 #[.int .u64 (x : Int), .int .i64 (tw : Int)] w fun e w' => e = .returned (.int .u64 ((x / 2 ^ tw : Nat) : Int)) ∧ w' = w) := fun w => ref_inside x tw HXl.out (by have := HWo.out; omega) w
                have hgL : (Lw : Int) ≤ (leadV x : Int) := by omega
                have hgt : (tw : Int) ≤ (trailV x : Int) := by omega
                generalize x / 2 ^ tw = xi at *
                generalize leadV x = ld at *
                generalize trailV x = tr at *
                clear HEf HNf hft2 hfL hft
                have hs2 : (64 : Int) - (Lw : Int) - (tw : Int) = ((64 - Lw - tw : Nat) : Int) := by have := HWo.out; omega
                have HWd : Hid (64 - Lw - tw ≤ 64) := by show _ ≤ _; omega
                have hld : (ld : Int) ≤ 63 := by have := HWin.out; omega
                have htr : (tr : Int) ≤ 63 := by have := HWin.out; omega
                go_wp2_with fail
                refine HZr.out.mono ?_
                rintro en w7 ⟨rfl, hb7⟩
                have HW7 := Lib.hid (HWa.out.below hb7)
                clear hb7 HZr HWa
                have HAl : Hid (RefWrote v B w (Value.slice p0 B.length c0) (w7.alloc (.cells #[.bool true, .bool false] 4))) := HW7.out.below ((Below.refl _ _).alloc (Nat.le_refl _) _)
                have HLi : Hid (Rd (w7.alloc (.cells #[.bool true, .bool false] 4)) 1 (.slice (some ⟨w7.heap.size, 0, none⟩) 2 2) 2 (bls [true, false])) := Rd.of_owns (World.ownsRow_lit (base := 0) w7 #[.bool true, .bool false] 2 (Nat.zero_le _) (by simp [maxLen]) (by simp))
                have HLb : Hid ((B.length + 2) * 1 ≤ 140737488355328 ∧ B.length + 2 ≤ maxLen) := by show _ ∧ _; have := HN.out; unfold maxLen; omega
                have HOne : Hid (∀ u ∈ bls [true, false], u.oneCell' = true) := by intro u hu; simp [bls] at hu; rcases hu with rfl | rfl <;> rfl
                go_wp2_with (at_builtin; refine wpList_extend Tryd.elemBool _ _ _ _ _ _ _ HAl.out.own HLi.out HOne.out HLb.out rfl _ _ rfl rfl rfl ?_)
                intro v8 w8 hown hmods hfr
                have HR8 : Hid (RefWrote v (B ++ [true, false]) w v8 w8) := HAl.out.lit hown hmods (by simpa using hfr)
                clear hown hmods hfr HAl HLi HLb HOne
                obtain ⟨p8, c8, hv8⟩ := (Rd.of_owns HR8.out.own).shape
                subst hv8
                have HL1 : Hid ((B ++ [true, false]).length + 64 ≤ 70368744177664) := by show _ ≤ _; have := HN.out; simp; omega
                have HFe : Hid (B ++ ([true, false] ++ fieldBits xi (64 - Lw - tw)) = (B ++ [true, false]) ++ fieldBits xi (64 - Lw - tw)) := by show _ = _; rw [List.append_assoc]
                generalize B ++ [true, false] = M1 at *
                generalize 64 - Lw - tw = wd at *
                go_wp2_with fail
                refine (HIs.out _).mono ?_
                rintro en wb2 ⟨rfl, rfl⟩
                go_wp2_with fail
                refine (ref_write _ M1 xi wd _ HR8.out.own HIn.out HWd.out HL1.out).mono ?_
                rintro en wc2 ⟨vc, rfl, hR⟩
                have HRc := Lib.hid (HR8.out.then hR)
                clear hR HR8
                go_wp2_with fail
                go_round
                case rel => exact ⟨j + 1, some (Lw, tw), _, by omega, by go_num, rfl, rfl, HE.out _ HFe.out.symm, HRc.out⟩
                case measure => simp [intOf]; omega
              · have hff : fits (some (Lw, tw)) x = false := by simp only [fits, Bool.and_eq_false_iff, decide_eq_false_iff_not]; exact Or.inr hft
                have hgL : (Lw : Int) ≤ (leadV x : Int) := by omega
                have hgt : ¬ (tw : Int) ≤ (trailV x : Int) := by omega
                clear hfL hft
                have HEf : Hid (encW (some (Lw, tw)) x = freshW x) := by
                  show _ = _
                  unfold encW
                  rw [if_neg hx0]
                  simp only [hff, Bool.false_eq_true, if_false]
                have HNf : Hid (nextW (some (Lw, tw)) x = some (leadV x, trailV x)) := by show _ = _; rw [nextW, if_neg hx0, if_neg (by rw [hff]; decide)]
                have HEn : Hid (∀ B', B' = B ++ freshW x → PutAtV bs l (j + 1) (some (leadV x, trailV x)) B') := fun B' e => by have h := HE.out B' (by rw [HEf.out]; exact e); rw [HNf.out] at h; exact h
                have HFr : Hid (freshW x = [true, true] ++ (fieldBits (leadV x) 6 ++ (fieldBits (63 - leadV x - trailV x) 6 ++ fieldBits (x / 2 ^ trailV x) (64 - leadV x - trailV x)))) := rfl
                have HIn : Hid (x / 2 ^ trailV x < 18446744073709551616) := by show _ < _; have := Nat.div_le_self x (2 ^ trailV x); have := HXl.out; omega
                have HIs : Hid (∀ w, Calls Tryd.prog 33 #[.int .u64 (x : Int), .int .i64 (trailV x : Int)] w fun e w' => e = .returned (.int .u64 ((x / 2 ^ trailV x : Nat) : Int)) ∧ w' = w) := fun w => ref_inside x (trailV x) HXl.out (by have := HWin.out; omega) w
                generalize freshW x = FW at *
                generalize x / 2 ^ trailV x = xi at *
                generalize leadV x = ld at *
                generalize trailV x = tr at *
                clear HE HEf HNf hff
                go_wp2_with fail
                refine HZr.out.mono ?_
                rintro en w7 ⟨rfl, hb7⟩
                have HW7 := Lib.hid (HWa.out.below hb7)
                clear hb7 HZr HWa
                have HAl : Hid (RefWrote v B w (Value.slice p0 B.length c0) (w7.alloc (.cells #[.bool true, .bool true] 4))) := HW7.out.below ((Below.refl _ _).alloc (Nat.le_refl _) _)
                have HLi : Hid (Rd (w7.alloc (.cells #[.bool true, .bool true] 4)) 1 (.slice (some ⟨w7.heap.size, 0, none⟩) 2 2) 2 (bls [true, true])) := Rd.of_owns (World.ownsRow_lit (base := 0) w7 #[.bool true, .bool true] 2 (Nat.zero_le _) (by simp [maxLen]) (by simp))
                have HLb : Hid ((B.length + 2) * 1 ≤ 140737488355328 ∧ B.length + 2 ≤ maxLen) := by show _ ∧ _; have := HN.out; unfold maxLen; omega
                have HOne : Hid (∀ u ∈ bls [true, true], u.oneCell' = true) := by intro u hu; simp [bls] at hu; rcases hu with rfl | rfl <;> rfl
                go_wp2_with (at_builtin; refine wpList_extend Tryd.elemBool _ _ _ _ _ _ _ HAl.out.own HLi.out HOne.out HLb.out rfl _ _ rfl rfl rfl ?_)
                intro v8 w8 hown hmods hfr
                have HR8 : Hid (RefWrote v (B ++ [true, true]) w v8 w8) := HAl.out.lit hown hmods (by simpa using hfr)
                clear hown hmods hfr HAl HLi HLb HOne
                obtain ⟨p8, c8, hv8⟩ := (Rd.of_owns HR8.out.own).shape
                subst hv8
                have hwl : IntKind.u64.wrap (ld : Int) = (ld : Int) := by rw [IntKind.wrap_u64]; have := HWin.out; omega
                have hs1 : (63 : Int) - (ld : Int) - (tr : Int) = ((63 - ld - tr : Nat) : Int) := by have := HWin.out; omega
                have hs2 : (64 : Int) - (ld : Int) - (tr : Int) = ((64 - ld - tr : Nat) : Int) := by have := HWin.out; omega
                have hwl2 : IntKind.u64.wrap ((63 - ld - tr : Nat) : Int) = ((63 - ld - tr : Nat) : Int) := by rw [IntKind.wrap_u64]; omega
                have hld : (ld : Int) ≤ 63 := by have := HWin.out; omega
                have htr : (tr : Int) ≤ 63 := by have := HWin.out; omega
                have HL1 : Hid ((B ++ [true, true]).length + 64 ≤ 70368744177664) := by show _ ≤ _; have := HN.out; simp; omega
                have HL2 : Hid (((B ++ [true, true]) ++ fieldBits ld 6).length + 64 ≤ 70368744177664) := by show _ ≤ _; have := HN.out; simp [fieldBits_length]; omega
                have HL3 : Hid ((((B ++ [true, true]) ++ fieldBits ld 6) ++ fieldBits (63 - ld - tr) 6).length + 64 ≤ 70368744177664) := by show _ ≤ _; have := HN.out; simp [fieldBits_length]; omega
                have HFe : Hid (B ++ FW = (((B ++ [true, true]) ++ fieldBits ld 6) ++ fieldBits (63 - ld - tr) 6) ++ fieldBits xi (64 - ld - tr)) := by show _ = _; rw [HFr.out]; simp only [List.append_assoc]
                generalize hM1 : B ++ [true, true] = M1 at *
                generalize hM2 : M1 ++ fieldBits ld 6 = M2 at *
                generalize hM3 : M2 ++ fieldBits (63 - ld - tr) 6 = M3 at *
                have HM2 := Lib.hid hM2
                have HM3 := Lib.hid hM3
                clear hM1 hM2 hM3
                have hW63 : Hid (63 - ld - tr < 18446744073709551616 ∧ ld < 18446744073709551616 ∧ 64 - ld - tr ≤ 64) := by show _ ∧ _; have := HWin.out; omega
                generalize 63 - ld - tr = wm at *
                generalize 64 - ld - tr = wd at *
                go_wp2_with fail
                refine (ref_write _ M1 ld 6 _ HR8.out.own hW63.out.2.1 (by decide) HL1.out).mono ?_
                rintro en w9 ⟨v9, rfl, hR⟩
                have HR9 : Hid (RefWrote v M2 w v9 w9) := by
                  show RefWrote _ _ _ _ _
                  rw [← HM2.out]
                  exact HR8.out.then hR
                obtain ⟨p9, c9, hv9⟩ := (Rd.of_owns HR9.out.own).shape
                subst hv9
                clear hR HR8
                go_wp2_with fail
                refine (ref_write _ M2 wm 6 _ HR9.out.own hW63.out.1 (by decide) HL2.out).mono ?_
                rintro en wa2 ⟨va, rfl, hR⟩
                have HRa : Hid (RefWrote v M3 w va wa2) := by
                  show RefWrote _ _ _ _ _
                  rw [← HM3.out]
                  exact HR9.out.then hR
                obtain ⟨pa, ca, hva⟩ := (Rd.of_owns HRa.out.own).shape
                subst hva
                clear hR HR9
                go_wp2_with fail
                refine (HIs.out _).mono ?_
                rintro en wb2 ⟨rfl, rfl⟩
                go_wp2_with fail
                refine (ref_write _ M3 xi wd _ HRa.out.own HIn.out hW63.out.2.2 HL3.out).mono ?_
                rintro en wc2 ⟨vc, rfl, hR⟩
                have HRc := Lib.hid (HRa.out.then hR)
                clear hR HRa
                go_wp2_with fail
                go_round
                case rel => exact ⟨j + 1, some (ld, tr), _, by omega, by go_num, rfl, rfl, HEn.out _ HFe.out.symm, HRc.out⟩
                case measure => simp [intOf]; omega
            · have hff : fits (some (Lw, tw)) x = false := by simp only [fits, Bool.and_eq_false_iff, decide_eq_false_iff_not]; exact Or.inl hfL
              have hgL : ¬ (Lw : Int) ≤ (leadV x : Int) := by omega
              clear hfL
              have HEf : Hid (encW (some (Lw, tw)) x = freshW x) := by
                show _ = _
                unfold encW
                rw [if_neg hx0]
                simp only [hff, Bool.false_eq_true, if_false]
              have HNf : Hid (nextW (some (Lw, tw)) x = some (leadV x, trailV x)) := by show _ = _; rw [nextW, if_neg hx0, if_neg (by rw [hff]; decide)]
              have HEn : Hid (∀ B', B' = B ++ freshW x → PutAtV bs l (j + 1) (some (leadV x, trailV x)) B') := fun B' e => by have h := HE.out B' (by rw [HEf.out]; exact e); rw [HNf.out] at h; exact h
              have HFr : Hid (freshW x = [true, true] ++ (fieldBits (leadV x) 6 ++ (fieldBits (63 - leadV x - trailV x) 6 ++ fieldBits (x / 2 ^ trailV x) (64 - leadV x - trailV x)))) := rfl
              have HIn : Hid (x / 2 ^ trailV x < 18446744073709551616) := by show _ < _; have := Nat.div_le_self x (2 ^ trailV x); have := HXl.out; omega
              have HIs : Hid (∀ w, Calls Tryd.prog 33 #[.int .u64 (x : Int), .int .i64 (trailV x : Int)] w fun e w' => e = .returned (.int .u64 ((x / 2 ^ trailV x : Nat) : Int)) ∧ w' = w) := fun w => ref_inside x (trailV x) HXl.out (by have := HWin.out; omega) w
              generalize freshW x = FW at *
              generalize x / 2 ^ trailV x = xi at *
              generalize leadV x = ld at *
              generalize trailV x = tr at *
              clear HE HEf HNf hff
              go_wp2_with fail
              refine HZr.out.mono ?_
              rintro en w7 ⟨rfl, hb7⟩
              have HW7 := Lib.hid (HWa.out.below hb7)
              clear hb7 HZr HWa
              have HAl : Hid (RefWrote v B w (Value.slice p0 B.length c0) (w7.alloc (.cells #[.bool true, .bool true] 4))) := HW7.out.below ((Below.refl _ _).alloc (Nat.le_refl _) _)
              have HLi : Hid (Rd (w7.alloc (.cells #[.bool true, .bool true] 4)) 1 (.slice (some ⟨w7.heap.size, 0, none⟩) 2 2) 2 (bls [true, true])) := Rd.of_owns (World.ownsRow_lit (base := 0) w7 #[.bool true, .bool true] 2 (Nat.zero_le _) (by simp [maxLen]) (by simp))
              have HLb : Hid ((B.length + 2) * 1 ≤ 140737488355328 ∧ B.length + 2 ≤ maxLen) := by show _ ∧ _; have := HN.out; unfold maxLen; omega
              have HOne : Hid (∀ u ∈ bls [true, true], u.oneCell' = true) := by intro u hu; simp [bls] at hu; rcases hu with rfl | rfl <;> rfl
              go_wp2_with (at_builtin; refine wpList_extend Tryd.elemBool _ _ _ _ _ _ _ HAl.out.own HLi.out HOne.out HLb.out rfl _ _ rfl rfl rfl ?_)
              intro v8 w8 hown hmods hfr
              have HR8 : Hid (RefWrote v (B ++ [true, true]) w v8 w8) := HAl.out.lit hown hmods (by simpa using hfr)
              clear hown hmods hfr HAl HLi HLb HOne
              obtain ⟨p8, c8, hv8⟩ := (Rd.of_owns HR8.out.own).shape
              subst hv8
              have hwl : IntKind.u64.wrap (ld : Int) = (ld : Int) := by rw [IntKind.wrap_u64]; have := HWin.out; omega
              have hs1 : (63 : Int) - (ld : Int) - (tr : Int) = ((63 - ld - tr : Nat) : Int) := by have := HWin.out; omega
              have hs2 : (64 : Int) - (ld : Int) - (tr : Int) = ((64 - ld - tr : Nat) : Int) := by have := HWin.out; omega
              have hwl2 : IntKind.u64.wrap ((63 - ld - tr : Nat) : Int) = ((63 - ld - tr : Nat) : Int) := by rw [IntKind.wrap_u64]; omega
              have hld : (ld : Int) ≤ 63 := by have := HWin.out; omega
              have htr : (tr : Int) ≤ 63 := by have := HWin.out; omega
              have HL1 : Hid ((B ++ [true, true]).length + 64 ≤ 70368744177664) := by show _ ≤ _; have := HN.out; simp; omega
              have HL2 : Hid (((B ++ [true, true]) ++ fieldBits ld 6).length + 64 ≤ 70368744177664) := by show _ ≤ _; have := HN.out; simp [fieldBits_length]; omega
              have HL3 : Hid ((((B ++ [true, true]) ++ fieldBits ld 6) ++ fieldBits (63 - ld - tr) 6).length + 64 ≤ 70368744177664) := by show _ ≤ _; have := HN.out; simp [fieldBits_length]; omega
              have HFe : Hid (B ++ FW = (((B ++ [true, true]) ++ fieldBits ld 6) ++ fieldBits (63 - ld - tr) 6) ++ fieldBits xi (64 - ld - tr)) := by show _ = _; rw [HFr.out]; simp only [List.append_assoc]
              generalize hM1 : B ++ [true, true] = M1 at *
              generalize hM2 : M1 ++ fieldBits ld 6 = M2 at *
              generalize hM3 : M2 ++ fieldBits (63 - ld - tr) 6 = M3 at *
              have HM2 := Lib.hid hM2
              have HM3 := Lib.hid hM3
              clear hM1 hM2 hM3
              have hW63 : Hid (63 - ld - tr < 18446744073709551616 ∧ ld < 18446744073709551616 ∧ 64 - ld - tr ≤ 64) := by show _ ∧ _; have := HWin.out; omega
              generalize 63 - ld - tr = wm at *
              generalize 64 - ld - tr = wd at *
              go_wp2_with fail
              refine (ref_write _ M1 ld 6 _ HR8.out.own hW63.out.2.1 (by decide) HL1.out).mono ?_
              rintro en w9 ⟨v9, rfl, hR⟩
              have HR9 : Hid (RefWrote v M2 w v9 w9) := by
                show RefWrote _ _ _ _ _
                rw [← HM2.out]
                exact HR8.out.then hR
              obtain ⟨p9, c9, hv9⟩ := (Rd.of_owns HR9.out.own).shape
              subst hv9
              clear hR HR8
              go_wp2_with fail
              refine (ref_write _ M2 wm 6 _ HR9.out.own hW63.out.1 (by decide) HL2.out).mono ?_
              rintro en wa2 ⟨va, rfl, hR⟩
              have HRa : Hid (RefWrote v M3 w va wa2) := by
                show RefWrote _ _ _ _ _
                rw [← HM3.out]
                exact HR9.out.then hR
              obtain ⟨pa, ca, hva⟩ := (Rd.of_owns HRa.out.own).shape
              subst hva
              clear hR HR9
              go_wp2_with fail
              refine (HIs.out _).mono ?_
              rintro en wb2 ⟨rfl, rfl⟩
              go_wp2_with fail
              refine (ref_write _ M3 xi wd _ HRa.out.own HIn.out hW63.out.2.2 HL3.out).mono ?_
              rintro en wc2 ⟨vc, rfl, hR⟩
              have HRc := Lib.hid (HRa.out.then hR)
              clear hR HRa
              go_wp2_with fail
              go_round
              case rel => exact ⟨j + 1, some (ld, tr), _, by omega, by go_num, rfl, rfl, HEn.out _ HFe.out.symm, HRc.out⟩
              case measure => simp [intOf]; omega
    · have hnl : ¬ (j : Int) < (l.length : Int) := by omega
      obtain rfl : j = l.length := by omega
      have HE : Hid (B = bs ++ encV l) := by
        rcases hP with ⟨h0, _, rfl⟩ | ⟨k, last, _, _, _, hBl⟩
        · have : l = [] := List.eq_nil_of_length_eq_zero h0
          subst this
          show B = B ++ []
          rw [List.append_nil]
        · rw [List.drop_length, encFromV, List.append_nil] at hBl
          exact hBl
      rw [HE.out] at HW
      go_wp2_with fail
      go_ret
      exact ⟨_, rfl, HW.out⟩
end Go.Proofs.YtnhopiggknfimaaDoor
