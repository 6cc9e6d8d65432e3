/- Ref13G, RcI, Prog13, StrGot, Ref10A, Long10, OpenW, Field13, in one text. -/
import Derived.Test.YtmnagmbokajfpaaMrg7
import Derived.Test.YtmnagmbokajfpaaMrg3
import Derived.Test.YtmnagmbokajfpaaMrg5
import Derived.Test.YtmnagmbokajfpaaMrg4
import Derived.Test.YtmnagmbokajfpaaMrg1
import Derived.Test.YtmnagmbokajfpaaMrg2

section
/- Layer 13: the reference's Encode. -/
set_option linter.unusedVariables false
set_option maxRecDepth 20000
namespace Go.Proofs.Ytmnagmbokajfpaa
open Go Go.RowKit
theorem encRcR_bad {t : List ByteArray} {l : List Rec} {k : Nat} (hk : k ≠ 0) (h : recsErr t l = k) : encRcR t l = (k, []) := by rw [encRcR, h, if_neg hk]

set_option maxHeartbeats 16000000 in
theorem ref_encode13o (tv lv : Value) (t : List ByteArray) (l : List Rec) (w : World) (ht : Rd w 1 tv t.length (strs t)) (htn : t.length ≤ 1000000) (hl : RdR w lv l) (hln : l.length ≤ 1000000) (hlb : ∀ r ∈ l, r.1.length ≤ 1000000 ∧ r.2.length ≤ 1000000) (hlz : ∀ r ∈ l, ∀ n ∈ r.2, -9223372036854775808 ≤ n ∧ n < 9223372036854775808) (hE : (encRc t l).length ≤ 1000000000) :
    Calls Try.prog 15 #[tv, lv] w (GotBo w (encRcR t l)) := by
  have HT := Lib.hid ht; have HTn := Lib.hid htn; have HL := Lib.hid hl; have HLn := Lib.hid hln; have HLb := Lib.hid hlb; have HLz := Lib.hid hlz; have HEn := Lib.hid hE
  obtain ⟨pt, ct, hv⟩ := ht.shape
  subst hv
  obtain ⟨pl, cl, hv⟩ := hl.shape
  subst hv
  have hlni : (l.length : Int) ≤ 1000000 := by omega
  have HO0 : Hid (OwnB w w [] (.slice none 0 0)) := Own1.nil w
  clear ht htn hl hln hlb hlz hE
  go_enter Try.func15, Try.ntmps15
  go_wp2_with fail
  refine (ref_number13 w w [] _ l.length HO0.out (by omega) (by simp)).mono ?_
  rintro en w1 ⟨r1, rfl, hO, _, _⟩
  have HO1 : Hid (OwnB w w1 (encTo t l 0) r1) := by
    show OwnB w w1 (groups l.length ++ (l.take 0).flatMap (recBytes t)) r1
    rw [List.take_zero, List.flatMap_nil, List.append_nil]
    simpa using hO
  obtain ⟨p1, c1, hv1⟩ := HO1.out.shape
  subst hv1
  clear hO HO0
  go_wp2_with fail
  go_loopw [6, 7] (fun vv iv wr => ∃ (i : Nat), i ≤ l.length ∧ iv = .int .i64 (i : Int) ∧ Hid (OwnB w wr (encTo t l i) vv) ∧ Hid (recsErr t l = recsErr t (l.drop i))) (fun _ iv _ => l.length - (intOf iv).toNat)
  case atStart => exact ⟨0, Nat.zero_le _, rfl, HO1.out, rfl⟩
  case round =>
    obtain ⟨i, hi, rfl, HO, HE⟩ := hrel
    have him : (i : Int) ≤ 1000000 := by omega
    obtain ⟨pv, cv, hvv⟩ := HO.out.shape
    subst hvv
    by_cases hlt : i < l.length
    · have hlt' : (i : Int) < (l.length : Int) := by omega
      obtain ⟨⟨labs, chs⟩, hr⟩ : ∃ r, l[i]? = some r := ⟨_, List.getElem?_eq_getElem hlt⟩
      obtain ⟨blk, off, h1, h2, e, ⟨q1, k1, e1⟩, ⟨q2, k2, e2⟩, hat⟩ := HL.out.always hr
      simp only at e1 e2
      subst e; subst e1; subst e2
      have HAt : Hid (∀ w', Below w.heap.size w w' → w'.cell? ⟨blk, off + i * 2, none⟩ = some (.slice q1 labs.length k1) ∧ w'.cell? ⟨blk, off + i * 2 + 1, none⟩ = some (.slice q2 chs.length k2) ∧ Rd w' 2 (.slice q1 labs.length k1) labs.length (labCells labs) ∧ Rd w' 1 (.slice q2 chs.length k2) chs.length (i64s chs)) := fun w' hb => by obtain ⟨a, b, c, d⟩ := hat w' hb; exact ⟨a, b, c, d⟩
      have hmem := List.mem_of_getElem? hr
      have HRb : Hid (labs.length ≤ 1000000 ∧ chs.length ≤ 1000000) := HLb.out _ hmem
      have HRz : Hid (∀ n ∈ chs, -9223372036854775808 ≤ n ∧ n < 9223372036854775808) := HLz.out _ hmem
      have hlm : (labs.length : Int) ≤ 1000000 := by have := HRb.out; omega
      have hcm : (chs.length : Int) ≤ 1000000 := by have := HRb.out; omega
      have HRm : Hid ((encTo t l i).length + (groups labs.length).length + (symsBytes t (stringsL labs)).length + (groups chs.length).length + (numsBytes chs).length ≤ 1000000000) := Nat.le_trans (encTo_room hr) HEn.out
      have HNx : Hid (encTo t l (i + 1) = encTo t l i ++ groups labs.length ++ symsBytes t (stringsL labs) ++ groups chs.length ++ numsBytes chs) := encTo_step hr
      have HSt : Hid (recsErr t l = if recErr t (labs, chs) = 0 then recsErr t (l.drop (i + 1)) else recErr t (labs, chs)) := recsErr_step hr HE.out
      obtain ⟨d0, d1, dl, dc⟩ := HAt.out wr HO.out.bel
      have HSr := Lib.hid (ref_strings11 (.slice q1 labs.length k1) labs wr dl (by have := HRb.out; omega))
      obtain ⟨E0, hE0⟩ : ∃ E0, encTo t l i = E0 := ⟨_, rfl⟩
      rw [hE0] at HO HRm HNx ⊢
      clear hr hat hmem HE dl dc hE0
      go_wp2_with fail
      refine HSr.out.mono ?_
      rintro en w2 ⟨sv, rfl, hS⟩
      obtain ⟨S, hSe⟩ : ∃ S, stringsL labs = S := ⟨_, rfl⟩
      have HSe := Lib.hid hSe
      rw [hSe] at hS HRm HNx
      have HO2 := Lib.hid (HO.out.below hS.bel)
      obtain ⟨ps, cs, hsv⟩ := hS.shape
      subst hsv
      have HBs : Hid (Beside w2 1 (.slice ps S.length cs) S.length (strs S) (.slice pv E0.length cv)) := ⟨hS.rd, fun _ k hk he => by have h1 := (hS.row.lt k hk).1; have h2 := (HO.out.row.lt k he).2; omega⟩
      have HSn : Hid (S.length = 2 * labs.length) := by show _ = _; rw [← hSe]; exact stringsL_len labs
      obtain ⟨d0, d1, _, _⟩ := HAt.out w2 HO2.out.bel
      clear hS hSe HSr HO d0 d1
      obtain ⟨d0, d1, _, _⟩ := HAt.out w2 HO2.out.bel
      go_wp2_with fail
      refine (ref_number13 w w2 E0 _ labs.length HO2.out (by have := HRb.out; omega) (by have := HRm.out; omega)).mono ?_
      rintro en w3 ⟨r3, rfl, hO, hM, hF⟩
      have HO3 : Hid (OwnB w w3 (E0 ++ groups labs.length ++ symsBytes t (S.take 0)) r3) := by show OwnB _ _ _ _; rw [List.take_zero]; simpa [symsBytes] using hO
      have HBs3 := Lib.hid (HBs.out.step hM hF)
      clear hO hM hF HO2 HBs d0 d1
      have hSi : (S.length : Int) ≤ 2000000 := by have := HSn.out; have := HRb.out; omega
      obtain ⟨L3, hL3⟩ : ∃ L3, E0 ++ groups labs.length ++ symsBytes t (S.take 0) = L3 := ⟨_, rfl⟩
      have HL3 := Lib.hid hL3
      rw [hL3] at HO3
      obtain ⟨p3, c3, hv3⟩ := HO3.out.shape
      subst hv3
      clear hL3
      go_wp2_with fail
      go_loopw [6, 9] (fun vv kv wr2 => ∃ (k : Nat), k ≤ S.length ∧ kv = .int .i64 (k : Int) ∧ Hid (OwnB w wr2 (E0 ++ groups labs.length ++ symsBytes t (S.take k)) vv) ∧ Hid (Beside wr2 1 (.slice ps S.length cs) S.length (strs S) vv) ∧ Hid (∀ s ∈ S.take k, s ∈ t)) (fun _ kv _ => S.length - (intOf kv).toNat)
      case atStart => exact ⟨0, Nat.zero_le _, rfl, (by show OwnB _ _ _ _; rw [HL3.out]; exact HO3.out), HBs3.out, (by intro s hs; simp at hs)⟩
      case round =>
        obtain ⟨k, hk, rfl, HO4, HB4, HIn⟩ := hrel
        have hkm : (k : Int) ≤ 2000000 := by omega
        obtain ⟨p4, c4, hv4⟩ := HO4.out.shape
        subst hv4
        by_cases hkl : k < S.length
        · have hkl' : (k : Int) < (S.length : Int) := by omega
          obtain ⟨s, hs⟩ : ∃ s, S[k]? = some s := ⟨_, List.getElem?_eq_getElem hkl⟩
          obtain ⟨gs, os, cs', e, _, _, hcell⟩ := HB4.out.rd.at (fun e => by have := congrArg List.length e; rw [strs_length] at this; rw [this] at hkl; simp at hkl)
          simp only [Value.slice.injEq] at e
          obtain ⟨rfl, _, rfl⟩ := e
          have s0 : wr.cell? ⟨gs, os + k, none⟩ = some (.string s) := hcell k _ (by rw [strs, List.getElem?_map, hs]; rfl)
          have HIx := Lib.hid (fun W h => ref_index10 (.slice pt t.length ct) t s W h (by have := HTn.out; omega))
          have HSs := Lib.hid (symsBytes_step (t := t) hs)
          have HTk : Hid (S.take (k + 1) = S.take k ++ [s]) := by show _ = _; rw [List.take_add_one, hs]; rfl
          have HTw : Hid (Rd wr 1 (.slice pt t.length ct) t.length (strs t)) := HT.out.below HO4.out.bel
          have HLm : Hid ((E0 ++ groups labs.length ++ symsBytes t (S.take k)).length ≤ 1000000000) := by
            show _ ≤ _
            have h1 := symsBytes_take_le t S k
            have h2 := HRm.out
            simp only [List.length_append]
            omega
          have HMs : Hid (s ∈ S) := List.mem_of_getElem? hs
          obtain ⟨L, hL⟩ : ∃ L, E0 ++ groups labs.length ++ symsBytes t (S.take k) = L := ⟨_, rfl⟩
          have HLe : Hid (E0 ++ groups labs.length ++ symsBytes t (S.take (k + 1)) = L ++ groups (idxT t s)) := by show _ = _; rw [HSs.out, ← hL, List.append_assoc (E0 ++ groups labs.length)]
          rw [hL] at HO4 HB4 HLm ⊢
          clear hs hcell hkl hL HSs
          go_wp2_with fail
          refine (HIx.out wr HTw.out).mono ?_
          rintro en w5 ⟨rfl, rfl⟩
          clear HIx s0
          by_cases hin : s ∈ t
          · obtain ⟨j, hj, hjt⟩ := findS_in hin
            have hjl := (List.getElem?_eq_some_iff.1 hjt).1
            have hji : idxT t s = j := by rw [idxT, hj]; rfl
            rw [hj]
            rw [hji] at HLe
            have hj0 : ¬ (j : Int) < 0 := by omega
            have HJn : Hid (j < 9223372036854775808) := by show _ < _; have := HTn.out; omega
            have HIn2 : Hid (∀ x ∈ S.take (k + 1), x ∈ t) := by
              intro x hx
              rw [HTk.out] at hx
              rcases List.mem_append.1 hx with e | e
              · exact HIn.out x e
              · simp at e; subst e; exact hin
            clear hj hjt hjl hji hin
            go_wp2_with fail
            refine (ref_number13 w w5 L _ j HO4.out HJn.out HLm.out).mono ?_
            rintro en w6 ⟨r6, rfl, hO, hM, hF⟩
            obtain ⟨L2, hL2⟩ : ∃ L2, E0 ++ groups labs.length ++ symsBytes t (S.take (k + 1)) = L2 := ⟨_, rfl⟩
            have HL2 := Lib.hid hL2
            have HO6 : Hid (OwnB w w6 L2 r6) := by show OwnB _ _ _ _; rw [← hL2, HLe.out]; exact hO
            have HB6 := Lib.hid (HB4.out.step hM hF)
            obtain ⟨p6, c6, hv6⟩ := HO6.out.shape
            subst hv6
            clear hO hM hF HO4 HB4 HLe HIn hL2
            go_wp2_with fail
            go_round
            case rel => exact ⟨k + 1, by omega, by go_num, (by show OwnB _ _ _ _; rw [HL2.out]; exact HO6.out), HB6.out, HIn2.out⟩
            case measure => simp [intOf]; omega
          · rw [findS_out hin]
            have HBad : Hid (encRcR t l = (14, [])) := by
              have h1 : recErr t (labs, chs) = 14 := by
                rw [recErr, if_neg (fun h => hin (stringsL_labIn.2 h s (by show s ∈ stringsL labs; rw [HSe.out]; exact HMs.out)))]
              refine encRcR_bad (by decide) ?_
              rw [HSt.out, h1]; rfl
            have hb := HO4.out.bel
            have HBw := Lib.hid hb
            clear hin hb
            go_wp2_with fail
            go_ret2
            exact GotBo.fails HBw.out HBad.out
        · have hkl' : ¬ (k : Int) < (S.length : Int) := by omega
          have hte : S.take k = S := List.take_of_length_le (by omega)
          rw [hte] at HO4 HB4 HIn ⊢
          have HLab : Hid (∀ x ∈ labs, labIn t x) := stringsL_labIn.1 (by rw [HSe.out]; exact HIn.out)
          have HBm : Hid ((E0 ++ groups labs.length ++ symsBytes t S).length + (groups chs.length).length + (numsBytes chs).length ≤ 1000000000) := by
            show _ ≤ _
            have h2 := HRm.out
            simp only [List.length_append]
            omega
          obtain ⟨E1, hE1⟩ : ∃ E1, E0 ++ groups labs.length ++ symsBytes t S = E1 := ⟨_, rfl⟩
          rw [hE1] at HO4 HB4 HBm HNx ⊢
          obtain ⟨d0, d1, _, _⟩ := HAt.out wr HO4.out.bel
          clear hte hkl hk hE1 HB4 HIn HRm HBs3 HO3
          by_cases hc0 : chs.length = 0
          · have hci : (chs.length : Int) = 0 := by omega
            have HBad : Hid (encRcR t l = (23, [])) := by
              have h1 : recErr t (labs, chs) = 23 := by
                rw [recErr, if_pos HLab.out, if_pos (List.eq_nil_of_length_eq_zero hc0)]
              refine encRcR_bad (by decide) ?_
              rw [HSt.out, h1]; rfl
            have HBw := Lib.hid HO4.out.bel
            clear hc0
            go_wp2_with fail
            go_ret2
            exact GotBo.fails HBw.out HBad.out
          · have hci : ¬ (chs.length : Int) = 0 := by omega
            have hcb : ((chs.length : Int) == 0) = false := by rw [beq_eq_false_iff_ne]; exact hci
            have HNe : Hid (chs ≠ []) := fun e => hc0 (by rw [e]; rfl)
            clear hc0
            go_wp2_with fail
            clear hkl' hkm
            generalize (k : Int) = k0 at *
            refine (ref_number13 w wr E1 _ chs.length HO4.out (by have := HRb.out; omega) (by have := HBm.out; omega)).mono ?_
            rintro en w6 ⟨r6, rfl, hO, hM, hF⟩
            obtain ⟨L6, hL6⟩ : ∃ L6, E1 ++ groups chs.length ++ numsBytes (chs.take 0) = L6 := ⟨_, rfl⟩
            have HL6 := Lib.hid hL6
            have HO6 : Hid (OwnB w w6 L6 r6) := by show OwnB _ _ _ _; rw [← hL6, List.take_zero]; simpa [numsBytes] using hO
            obtain ⟨p6, c6, hv6⟩ := HO6.out.shape
            subst hv6
            clear hO hM hF HO4 hci hcb d0 d1 hL6
            go_wp2_with fail
            go_loopw [6, 11] (fun vv kv wr2 => ∃ (k : Nat), k ≤ chs.length ∧ kv = .int .i64 (k : Int) ∧ Hid (OwnB w wr2 (E1 ++ groups chs.length ++ numsBytes (chs.take k)) vv) ∧ Hid (∀ n ∈ chs.take k, lenOk n)) (fun _ kv _ => chs.length - (intOf kv).toNat)
            case atStart => exact ⟨0, Nat.zero_le _, rfl, (by show OwnB _ _ _ _; rw [HL6.out]; exact HO6.out), (by intro s hs; simp at hs)⟩
            case round =>
              obtain ⟨k, hk, rfl, HO7, HOk⟩ := hrel
              have hkm : (k : Int) ≤ 1000000 := by omega
              obtain ⟨p7, c7, hv7⟩ := HO7.out.shape
              subst hv7
              obtain ⟨d0, d1, _, dc⟩ := HAt.out wr HO7.out.bel
              by_cases hkl : k < chs.length
              · have hkl' : (k : Int) < (chs.length : Int) := by omega
                obtain ⟨n, hn⟩ : ∃ n, chs[k]? = some n := ⟨_, List.getElem?_eq_getElem hkl⟩
                obtain ⟨gc, oc, cc', e, _, _, hcell⟩ := dc.at (fun e => by have := congrArg List.length e; rw [i64s_length] at this; rw [this] at hkl; simp at hkl)
                simp only [Value.slice.injEq] at e
                obtain ⟨rfl, _, rfl⟩ := e
                have n0 : wr.cell? ⟨gc, oc + k, none⟩ = some (.int .i64 n) := hcell k _ (by rw [i64s, List.getElem?_map, hn]; rfl)
                have HNs := Lib.hid (numsBytes_step hn)
                have HTk : Hid (chs.take (k + 1) = chs.take k ++ [n]) := by show _ = _; rw [List.take_add_one, hn]; rfl
                have HMn : Hid (n ∈ chs) := List.mem_of_getElem? hn
                have HLm : Hid ((E1 ++ groups chs.length ++ numsBytes (chs.take k)).length ≤ 1000000000) := by
                  show _ ≤ _
                  have h1 := numsBytes_take_le chs k
                  have h2 := HBm.out
                  simp only [List.length_append] at h2 ⊢
                  omega
                have hbad : ¬ lenOk n → encRcR t l = (23, []) := fun hno => by
                  have h1 : recErr t (labs, chs) = 23 := by
                    rw [recErr, if_pos HLab.out, if_neg HNe.out, if_neg (fun h => hno (h n HMn.out))]
                  refine encRcR_bad (by decide) ?_
                  rw [HSt.out, h1]; rfl
                have HBd := Lib.hid hbad
                have HBw := Lib.hid HO7.out.bel
                clear hn hcell dc hbad
                by_cases a1 : n < 1
                · have HBad := Lib.hid (HBd.out (fun h => by have := h.1; omega))
                  go_wp2_with fail
                  go_ret2
                  exact GotBo.fails HBw.out HBad.out
                · by_cases a2 : (2147483647 : Int) < n
                  · have HBad := Lib.hid (HBd.out (fun h => by have := h.2; omega))
                    go_wp2_with fail
                    go_ret2
                    exact GotBo.fails HBw.out HBad.out
                  · have HOkn : Hid (lenOk n) := ⟨by omega, by omega⟩
                    obtain ⟨m, hm⟩ : ∃ m : Nat, n = (m : Int) := ⟨n.toNat, by omega⟩
                    subst hm
                    have HJn : Hid (m < 9223372036854775808) := by show _ < _; omega
                    have HOk2 : Hid (∀ x ∈ chs.take (k + 1), lenOk x) := by
                      intro x hx
                      rw [HTk.out] at hx
                      rcases List.mem_append.1 hx with e | e
                      · exact HOk.out x e
                      · simp only [List.mem_singleton] at e; rw [e]; exact HOkn.out
                    obtain ⟨L, hL⟩ : ∃ L, E1 ++ groups chs.length ++ numsBytes (chs.take k) = L := ⟨_, rfl⟩
                    have HLe : Hid (E1 ++ groups chs.length ++ numsBytes (chs.take (k + 1)) = L ++ groups m) := by show _ = _; rw [HNs.out, ← hL, List.append_assoc (E1 ++ groups chs.length)]; rfl
                    rw [hL] at HO7 HLm ⊢
                    clear hkl hL HNs HBd
                    go_wp2_with fail
                    refine (ref_number13 w wr L _ m HO7.out HJn.out HLm.out).mono ?_
                    rintro en w8 ⟨r8, rfl, hO, hM, hF⟩
                    obtain ⟨L2, hL2⟩ : ∃ L2, E1 ++ groups chs.length ++ numsBytes (chs.take (k + 1)) = L2 := ⟨_, rfl⟩
                    have HL2 := Lib.hid hL2
                    have HO8 : Hid (OwnB w w8 L2 r8) := by show OwnB _ _ _ _; rw [← hL2, HLe.out]; exact hO
                    obtain ⟨p8, c8, hv8⟩ := HO8.out.shape
                    subst hv8
                    clear hO hM hF HO7 HLe HOk a1 a2 n0 d0 d1 hL2
                    go_wp2_with fail
                    go_round
                    case rel => exact ⟨k + 1, by omega, by go_num, (by show OwnB _ _ _ _; rw [HL2.out]; exact HO8.out), HOk2.out⟩
                    case measure => simp [intOf]; omega
              · have hkl' : ¬ (k : Int) < (chs.length : Int) := by omega
                have hte : chs.take k = chs := List.take_of_length_le (by omega)
                rw [hte] at HO7 HOk ⊢
                have HO9 : Hid (OwnB w wr (encTo t l (i + 1)) (.slice p7 (encTo t l (i + 1)).length c7)) := by show OwnB _ _ _ _; rw [HNx.out]; exact HO7.out
                have hsl : (E1 ++ groups chs.length ++ numsBytes chs) = encTo t l (i + 1) := HNx.out.symm
                have HE9 : Hid (recsErr t l = recsErr t (l.drop (i + 1))) := by
                  show _ = _
                  rw [HSt.out, if_pos (recErr_zero.2 ⟨HLab.out, HNe.out, HOk.out⟩)]
                rw [hsl]
                obtain ⟨L2, hL2⟩ : ∃ L2, encTo t l (i + 1) = L2 := ⟨_, rfl⟩
                have HL2 := Lib.hid hL2
                rw [hL2] at HO9 ⊢
                clear hte hsl HO7 HOk hkl hk dc hL2
                go_wp2_with fail
                go_round
                case rel => exact ⟨i + 1, by omega, by go_num, (by show OwnB _ _ _ _; rw [HL2.out]; exact HO9.out), HE9.out⟩
                case measure => simp [intOf]; omega
    · have hlt' : ¬ (i : Int) < (l.length : Int) := by omega
      have HOf : Hid (encRcR t l = (0, encTo t l i)) := by
        have h1 := HE.out
        rw [List.drop_of_length_le (by omega)] at h1
        show _ = _
        rw [encRcR, h1, encTo_all t l i (by omega)]; rfl
      go_wp2_with fail
      go_ret2
      exact ⟨by rw [HOf.out]; exact ⟨_, rfl, HO.out.row⟩, HO.out.bel⟩
theorem ref_encode13 (tv lv : Value) (t : List ByteArray) (l : List Rec) (w : World) (ht : Rd w 1 tv t.length (strs t)) (htn : t.length ≤ 1000000) (hl : RdR w lv l) (hln : l.length ≤ 1000000) (hlb : ∀ r ∈ l, r.1.length ≤ 1000000 ∧ r.2.length ≤ 1000000) (hlz : ∀ r ∈ l, ∀ n ∈ r.2, -9223372036854775808 ≤ n ∧ n < 9223372036854775808) (hE : (encRc t l).length ≤ 1000000000) :
    Calls Try.prog 15 #[tv, lv] w (GotB w (encRcR t l)) := (ref_encode13o tv lv t l w ht htn hl hln hlb hlz hE).mono fun _ _ h => h.got
end Go.Proofs.Ytmnagmbokajfpaa

end

section
/- Layer 13: what the walks ask of the program's Encode, Decode, Unused and Total, whatever they look like inside. -/
set_option linter.unusedVariables false
namespace Go.Proofs.Ytmnagmbokajfpaa
open Go Go.RowKit

/-- The strings of all labels; the first string of a table that is not among them; the sum of all lengths. -/
def usedR (l : List Rec) : List ByteArray := l.flatMap fun r => stringsL r.1
def unusedR (t : List ByteArray) (l : List Rec) : Int := firstI (fun s => decide (¬ s ∈ usedR l)) t
def totalR (l : List Rec) : Int := (l.map fun r => r.2.sum).sum

/-- T w: what the program's own memory, in the blocks below G, must hold. -/
structure RcIf (G : Nat) (T : World → Prop) : Prop where
  keeps : ∀ {S : Nat → Prop} {w w' : World}, T w → Mods S w w' → (∀ k, k < G → ¬ S k) → T w'
  low : ∀ {w : World}, T w → G ≤ w.heap.size
  encode : ∀ (tv lv : Value) (t : List ByteArray) (l : List Rec) (w : World), T w → Rd w 1 tv t.length (strs t) → t.length ≤ 1000000 → AscB ltS t → Fits t → RdR w lv l → SizedR l → SmallR l → (encRc t l).length ≤ 1000000000 →
    Calls Try.prog 14 #[tv, lv] w (GotB w (encRcR t l))
  decode : ∀ (tv bv : Value) (t : List ByteArray) (B : List Nat) (w : World), T w → Rd w 1 tv t.length (strs t) → t.length ≤ 1000000 → AscB ltS t → Fits t → Rd w 1 bv B.length (u8s B) → (∀ c ∈ B, c < 256) → B.length ≤ 100000000 →
    Calls Try.prog 18 #[tv, bv] w (GotRc w (decRc t B))
  unused : ∀ (tv lv : Value) (t : List ByteArray) (l : List Rec) (w : World), T w → Rd w 1 tv t.length (strs t) → t.length ≤ 1000000 → AscB ltS t → Fits t → RdR w lv l → SizedR l → SmallR l →
    Calls Try.prog 23 #[tv, lv] w fun e w' => e = .returned (.int .i64 (unusedR t l)) ∧ Below w.heap.size w w'
  total : ∀ (lv : Value) (l : List Rec) (w : World), T w → RdR w lv l → SizedR l → SmallL l → (∀ r ∈ l, ∀ n ∈ r.2, lenOk n) →
    Calls Try.prog 24 #[lv] w fun e w' => e = .returned (.int .i64 (totalR l)) ∧ Below w.heap.size w w'
theorem RcIf.below {G : Nat} {T : World → Prop} (I : RcIf G T) {w w' : World} (h : T w) (hb : Below w.heap.size w w') : T w' := I.keeps h (Mods.of_below hb (fun _ => False)) (fun _ _ h => h)
end Go.Proofs.Ytmnagmbokajfpaa

end

section
/- Layer 13: the statements' copies of records: program, reference. -/
set_option linter.unusedVariables false
set_option maxRecDepth 20000
namespace Go.Proofs.Ytmnagmbokajfpaa
open Go Go.RowKit

theorem elemRecP : Elem Try.prog 28 55 2 48 := Elem.mk' (z := .agg #[.slice none 0 0, .slice none 0 0]) Try.underlying28 (by kernel_rfl) rfl (by decide)
set_option maxHeartbeats 2000000 in
theorem prog13 (lv : Value) (l : List Rec) (w : World) (hl : RdR w lv l) (hn : l.length ≤ 1000000) :
    Calls Try.prog 13 #[lv] w fun e w' => ∃ r : Value, e = .returned r ∧ ∃ hs : List Hd, NrAt 55 w w' hs l r := by
  have HL := Lib.hid hl
  obtain ⟨pl, cl, hv⟩ := hl.shape
  subst hv
  have hni : (l.length : Int) ≤ 1000000 := by omega
  clear hl hn
  go_enter Try.func13, Try.ntmps13
  go_wp2_with fail
  go_loopw [3, 8] (fun vv iv wr => ∃ (i : Nat) (hs : List Hd), i ≤ l.length ∧ iv = .int .i64 (i : Int) ∧ Hid (NrAt 55 w wr hs (l.take i) vv)) (fun _ iv _ => l.length - (intOf iv).toNat)
  case atStart => exact ⟨0, [], Nat.zero_le _, rfl, NrAt.nil w⟩
  case round =>
    obtain ⟨i, hs, hi, rfl, HN⟩ := hrel
    have him : (i : Int) ≤ 1000000 := by omega
    obtain ⟨pv, cv, hvv⟩ := HN.out.row.rd.shape
    subst hvv
    by_cases hlt : i < l.length
    · have hlt' : (i : Int) < (l.length : Int) := by omega
      obtain ⟨⟨x1, x2⟩, hx⟩ : ∃ x, l[i]? = some x := ⟨_, List.getElem?_eq_getElem hlt⟩
      obtain ⟨ba, oa, h1, h2, e, ⟨p1, k1, e1⟩, ⟨p2, k2, e2⟩, hal⟩ := HL.out.always hx
      subst e
      simp only at e1 e2
      subst e1; subst e2
      have hat := (hal w (Below.refl _ _)).2.2
      obtain ⟨c0, c1, hr⟩ := hal wr HN.out.row.bel
      have hA : Below wr.heap.size wr (wr.alloc (.cells #[.slice p1 x1.length k1, .slice p2 x2.length k2] 49)) := (Below.refl _ _).alloc (Nat.le_refl _) _
      have HNa := Lib.hid (HN.out.below hA)
      have HSa : Hid (RecAt (wr.alloc (.cells #[.slice p1 x1.length k1, .slice p2 x2.length k2] 49)) (.slice p1 x1.length k1, .slice p2 x2.length k2) (x1, x2)) := hr.below hA
      have HOff : Hid (RecOff (fun j => (Value.slice pv hs.length cv).ownBlock = some j) (.slice p1 x1.length k1, .slice p2 x2.length k2) (x1, x2)) :=
        ⟨fun e j hj hv => by have h5 := hat.lt.1 e j hj; have h6 := (HN.out.row.row.lt j hv).1; omega, fun e j hj hv => by have h5 := hat.lt.2 e j hj; have h6 := (HN.out.row.row.lt j hv).1; omega⟩
      have HTk : Hid (l.take (i + 1) = l.take i ++ [(x1, x2)]) := by show _ = _; rw [List.take_add_one, hx]; rfl
      have HLn : Hid (hs.length = i) := by show _ = _; have := HN.out.len; rw [List.length_take] at this; omega
      have HOz : Hid ((wr.alloc (.cells #[.slice p1 x1.length k1, .slice p2 x2.length k2] 49)).ownsRow 0 55 2 (.slice pv hs.length cv) hs.length (two Prod.fst Prod.snd hs)) := HNa.out.row.base0
      have HLz : Hid ((hs.length + 1) * 48 ≤ 140737488355328 ∧ hs.length + 1 ≤ maxLen) := by show _ ∧ _; have := HLn.out; unfold maxLen; omega
      have HSz : Hid ((wr.alloc (.cells #[.slice p1 x1.length k1, .slice p2 x2.length k2] 49)).heap.size = wr.heap.size + 1) := by show _ = _; simp
      clear hal hat hr hA hx HN
      go_wp2_with (at_builtin; refine wpList_push elemRecP _ #[.slice p1 x1.length k1, .slice p2 x2.length k2] _ _ _ HOz.out rfl (by simp [Value.oneCell']) HLz.out rfl _ _ rfl rfl (by show _ = Value.slice (some ⟨World.heap _ |>.size, 0, none⟩) 1 1; rw [HSz.out]; rfl) ?_)
      intro v3 w3 k3 m3 f3
      have HN3 : Hid (NrAt 55 w w3 (hs ++ [(.slice p1 x1.length k1, .slice p2 x2.length k2)]) (l.take (i + 1)) v3) := by
        show NrAt _ _ _ _ _ _
        rw [HTk.out]
        exact HNa.out.pushed (h := (.slice p1 x1.length k1, .slice p2 x2.length k2)) (s := (x1, x2)) HSa.out HOff.out k3 m3 (by rw [HSz.out]; exact f3)
      obtain ⟨p3, c3, hv3⟩ := (Rd.of_owns k3).shape
      subst hv3
      clear k3 m3 f3 HOz HNa HSa HOff
      go_wp2_with fail
      go_round
      case rel => exact ⟨i + 1, hs ++ [((Value.slice p1 x1.length k1, Value.slice p2 x2.length k2) : Hd)], by omega, by go_num, HN3.out⟩
      case measure => simp [intOf]; omega
    · have hlt' : ¬ (i : Int) < (l.length : Int) := by omega
      have hte : l.take i = l := List.take_of_length_le (by omega)
      rw [hte] at HN
      clear hte
      go_wp2_with fail
      go_ret
      exact ⟨_, rfl, hs, HN.out⟩

theorem elemRecR : Elem Try.prog 36 63 2 48 := Elem.mk' (z := .agg #[.slice none 0 0, .slice none 0 0]) Try.underlying36 (by kernel_rfl) rfl (by decide)
set_option maxHeartbeats 2000000 in
theorem refr13 (lv : Value) (l : List Rec) (w : World) (hl : RdR w lv l) (hn : l.length ≤ 1000000) :
    Calls Try.prog 16 #[lv] w fun e w' => ∃ r : Value, e = .returned r ∧ ∃ hs : List Hd, NrAt 63 w w' hs l r := by
  have HL := Lib.hid hl
  obtain ⟨pl, cl, hv⟩ := hl.shape
  subst hv
  have hni : (l.length : Int) ≤ 1000000 := by omega
  clear hl hn
  go_enter Try.func16, Try.ntmps16
  go_wp2_with fail
  go_loopw [3, 8] (fun vv iv wr => ∃ (i : Nat) (hs : List Hd), i ≤ l.length ∧ iv = .int .i64 (i : Int) ∧ Hid (NrAt 63 w wr hs (l.take i) vv)) (fun _ iv _ => l.length - (intOf iv).toNat)
  case atStart => exact ⟨0, [], Nat.zero_le _, rfl, NrAt.nil w⟩
  case round =>
    obtain ⟨i, hs, hi, rfl, HN⟩ := hrel
    have him : (i : Int) ≤ 1000000 := by omega
    obtain ⟨pv, cv, hvv⟩ := HN.out.row.rd.shape
    subst hvv
    by_cases hlt : i < l.length
    · have hlt' : (i : Int) < (l.length : Int) := by omega
      obtain ⟨⟨x1, x2⟩, hx⟩ : ∃ x, l[i]? = some x := ⟨_, List.getElem?_eq_getElem hlt⟩
      obtain ⟨ba, oa, h1, h2, e, ⟨p1, k1, e1⟩, ⟨p2, k2, e2⟩, hal⟩ := HL.out.always hx
      subst e
      simp only at e1 e2
      subst e1; subst e2
      have hat := (hal w (Below.refl _ _)).2.2
      obtain ⟨c0, c1, hr⟩ := hal wr HN.out.row.bel
      have hA : Below wr.heap.size wr (wr.alloc (.cells #[.slice p1 x1.length k1, .slice p2 x2.length k2] 55)) := (Below.refl _ _).alloc (Nat.le_refl _) _
      have HNa := Lib.hid (HN.out.below hA)
      have HSa : Hid (RecAt (wr.alloc (.cells #[.slice p1 x1.length k1, .slice p2 x2.length k2] 55)) (.slice p1 x1.length k1, .slice p2 x2.length k2) (x1, x2)) := hr.below hA
      have HOff : Hid (RecOff (fun j => (Value.slice pv hs.length cv).ownBlock = some j) (.slice p1 x1.length k1, .slice p2 x2.length k2) (x1, x2)) :=
        ⟨fun e j hj hv => by have h5 := hat.lt.1 e j hj; have h6 := (HN.out.row.row.lt j hv).1; omega, fun e j hj hv => by have h5 := hat.lt.2 e j hj; have h6 := (HN.out.row.row.lt j hv).1; omega⟩
      have HTk : Hid (l.take (i + 1) = l.take i ++ [(x1, x2)]) := by show _ = _; rw [List.take_add_one, hx]; rfl
      have HLn : Hid (hs.length = i) := by show _ = _; have := HN.out.len; rw [List.length_take] at this; omega
      have HOz : Hid ((wr.alloc (.cells #[.slice p1 x1.length k1, .slice p2 x2.length k2] 55)).ownsRow 0 63 2 (.slice pv hs.length cv) hs.length (two Prod.fst Prod.snd hs)) := HNa.out.row.base0
      have HLz : Hid ((hs.length + 1) * 48 ≤ 140737488355328 ∧ hs.length + 1 ≤ maxLen) := by show _ ∧ _; have := HLn.out; unfold maxLen; omega
      have HSz : Hid ((wr.alloc (.cells #[.slice p1 x1.length k1, .slice p2 x2.length k2] 55)).heap.size = wr.heap.size + 1) := by show _ = _; simp
      clear hal hat hr hA hx HN
      go_wp2_with (at_builtin; refine wpList_push elemRecR _ #[.slice p1 x1.length k1, .slice p2 x2.length k2] _ _ _ HOz.out rfl (by simp [Value.oneCell']) HLz.out rfl _ _ rfl rfl (by show _ = Value.slice (some ⟨World.heap _ |>.size, 0, none⟩) 1 1; rw [HSz.out]; rfl) ?_)
      intro v3 w3 k3 m3 f3
      have HN3 : Hid (NrAt 63 w w3 (hs ++ [(.slice p1 x1.length k1, .slice p2 x2.length k2)]) (l.take (i + 1)) v3) := by
        show NrAt _ _ _ _ _ _
        rw [HTk.out]
        exact HNa.out.pushed (h := (.slice p1 x1.length k1, .slice p2 x2.length k2)) (s := (x1, x2)) HSa.out HOff.out k3 m3 (by rw [HSz.out]; exact f3)
      obtain ⟨p3, c3, hv3⟩ := (Rd.of_owns k3).shape
      subst hv3
      clear k3 m3 f3 HOz HNa HSa HOff
      go_wp2_with fail
      go_round
      case rel => exact ⟨i + 1, hs ++ [((Value.slice p1 x1.length k1, Value.slice p2 x2.length k2) : Hd)], by omega, by go_num, HN3.out⟩
      case measure => simp [intOf]; omega
    · have hlt' : ¬ (i : Int) < (l.length : Int) := by omega
      have hte : l.take i = l := List.take_of_length_le (by omega)
      rw [hte] at HN
      clear hte
      go_wp2_with fail
      go_ret
      exact ⟨_, rfl, hs, HN.out⟩
end Go.Proofs.Ytmnagmbokajfpaa

end

section
/- A new list of strings, as a result. -/
set_option linter.unusedVariables false
namespace Go.Proofs.Ytmnagmbokajfpaa
open Go Go.RowKit

abbrev OwnS := Own1 9 Value.string
/-- A new list of strings. -/
structure GotL (w : World) (l : List ByteArray) (r : Value) (w' : World) : Prop where
  rd : Rd w' 1 r l.length (strs l)
  far : ∀ k, r.ownBlock = some k → w.heap.size ≤ k
  bel : Below w.heap.size w w'
theorem Own1.got {w wr : World} {l : List ByteArray} {v : Value} (h : OwnS w wr l v) : GotL w l v wr := ⟨h.rd, fun k hk => (h.row.lt k hk).1, h.bel⟩
end Go.Proofs.Ytmnagmbokajfpaa

end

section
/- Layer 10: the reference's Table. -/
set_option linter.unusedVariables false
namespace Go.Proofs.Ytmnagmbokajfpaa
open Go Go.RowKit

theorem tabS_snoc (l : List ByteArray) (x : ByteArray) : tabS (l ++ [x]) = insB ltS x (tabS l) := tabB_snoc l x

set_option maxRecDepth 20000 in
set_option maxHeartbeats 4000000 in
theorem ref_table10 (lv : Value) (l : List ByteArray) (w : World) (hl : Rd w 1 lv l.length (strs l)) (hn : l.length ≤ 1000000000) :
    Calls Try.prog 12 #[lv] w fun e w' => ∃ v, e = .returned v ∧ OwnS w w' (tabS l) v := by
  have HL := Lib.hid hl; have HNn := Lib.hid hn
  obtain ⟨pl, cl, hv⟩ := hl.shape
  subst hv
  clear hl hn
  go_enter Try.func12, Try.ntmps12
  go_wp2_with fail
  go_loopw [3, 4] (fun vv iv wr => ∃ (j : Nat), j ≤ l.length ∧ iv = .int .i64 (j : Int) ∧ Hid (OwnS w wr (tabS (l.take j)) vv)) (fun _ iv _ => l.length - (intOf iv).toNat)
  case atStart => exact ⟨0, by omega, rfl, Own1.nil w⟩
  case round =>
    obtain ⟨j, hj, rfl, HO⟩ := hrel
    by_cases hlt : j < l.length
    · have hlt' : (j : Int) < (l.length : Int) := by omega
      have hji : (j : Int) ≤ 1000000000 := by have := HNn.out; omega
      obtain ⟨b, off, c', e, _, _, _⟩ := HL.out.at (fun e => by have := congrArg List.length e; rw [strs_length] at this; simp at this; subst this; simp at hlt)
      simp only [Value.slice.injEq] at e
      obtain ⟨rfl, _, rfl⟩ := e
      obtain ⟨x, hx⟩ : ∃ x, l[j] = x := ⟨_, rfl⟩
      have HCt : Hid (∀ w', Below w.heap.size w w' → w'.cell? ⟨b, off + j, none⟩ = some (.string x)) := fun w' hb => by
        rw [← hx]; exact rd1_cell (HL.out.below hb) hlt
      have HSt : Hid (tabS (l.take (j + 1)) = insB ltS x (tabS (l.take j))) := by show _ = _; rw [List.take_add_one, List.getElem?_eq_getElem hlt, hx]; exact tabS_snoc _ _
      have hDl : (tabS (l.take j)).length ≤ 1000000000 := by have := tabB_len (lt := ltS) (l.take j); rw [List.length_take] at this; have := HNn.out; unfold tabS; omega
      have HA : Hid (AscB ltS (tabS (l.take j))) := tabB_asc ltS_ok (l.take j)
      clear hx
      generalize tabS (l.take j) = d at *
      obtain ⟨pv, cv, hvv⟩ := (Rd.of_owns HO.out.row).shape
      subst hvv
      obtain ⟨N, hN⟩ : ∃ N, d.length = N := ⟨_, rfl⟩
      rw [hN] at hDl HO ⊢
      have HNe : Hid (d.length = N) := hN
      clear hN
      have HD := Lib.hid hDl
      have hNi : (N : Int) ≤ 1000000000 := by omega
      clear hDl
      go_wp2_with fail
      go_loopw [5] (fun kv wr2 => ∃ (k : Nat), k ≤ N ∧ kv = .int .i64 (k : Int) ∧ Hid (∀ z ∈ d.take k, ltS z x = true) ∧ Hid (OwnS w wr2 d (.slice pv N cv))) (fun kv _ => N - (intOf kv).toNat)
      case atStart => exact ⟨0, Nat.zero_le _, rfl, (by intro z hz; simp at hz), HO.out⟩
      case round =>
        obtain ⟨k, hkN, rfl, HLo, HO2⟩ := hrel
        have hki : (k : Int) ≤ 1000000000 := by omega
        have hcx := HCt.out wr HO2.out.bel
        by_cases hk : k < N
        · have hk' : (k : Int) < (N : Int) := by omega
          obtain ⟨g0, cap0, hv0⟩ : ∃ g cap, (Value.slice pv N cv) = .slice (some ⟨g, 0, none⟩) N cap := by
            rcases owns_cases HO2.out.row with ⟨_, h0, _⟩ | ⟨g, cap, hv, _⟩
            · have := HNe.out; omega
            · rw [HNe.out] at hv; exact ⟨g, cap, hv⟩
          simp only [Value.slice.injEq] at hv0
          obtain ⟨rfl, _, rfl⟩ := hv0
          obtain ⟨y, hy⟩ : ∃ y, d[k]'(by have := HNe.out; omega) = y := ⟨_, rfl⟩
          have hcy : wr.cell? ⟨g0, k, none⟩ = some (.string y) := by rw [← hy]; exact (HO2.out.cell (i := k) (by have := HNe.out; omega)).1
          have HY : Hid (d[k]'(by have := HNe.out; omega) = y) := hy
          have HYd : Hid (d.drop k = y :: d.drop (k + 1)) := by show _ = _; rw [← hy, List.getElem_cons_drop]
          have HYt : Hid (d.take (k + 1) = d.take k ++ [y]) := by show _ = _; rw [List.take_add_one, List.getElem?_eq_getElem (by have := HNe.out; omega), hy]; rfl
          clear hy
          by_cases hyx : ltS y x = true
          · have hcmp : Op.bytesLess y.toList x.toList = true := hyx
            have HLo2 : Hid (∀ z ∈ d.take (k + 1), ltS z x = true) := by
              show ∀ z ∈ _, _
              rw [HYt.out]
              intro z hz
              rcases List.mem_append.1 hz with e | e
              · exact HLo.out z e
              · simp only [List.mem_singleton] at e; subst e; exact hyx
            clear hyx
            go_wp2_with fail
            go_quiet (fail)
            have HO3 := Lib.hid (HO2.out.drewN nq)
            clear hcx hcy HO2 HLo
            generalize wr.drewN nq = wn at *
            go_wp2_with fail
            go_round
            case rel => exact ⟨k + 1, by omega, by go_num, HLo2.out, HO3.out⟩
            case measure => simp [intOf]; omega
          · have hcmp0 : ltS y x = false := by simpa using hyx
            have hcmp : Op.bytesLess y.toList x.toList = false := hcmp0
            have HYX := Lib.hid hcmp0
            clear hcmp0
            clear hyx
            by_cases heq : y = x
            · subst heq
              have HS2 : Hid (tabS (l.take (j + 1)) = d) := by
                show _ = _
                rw [HSt.out]
                have e := insB_at ltS_ok.toLtPre y (d.take k) (d.drop (k + 1)) HLo.out
                rw [← HYd.out, List.take_append_drop] at e
                exact e
              have hse : (y.toList == y.toList) = true := by simp
              go_wp2_with fail
              go_quiet (fail)
              have HO3 := Lib.hid (HO2.out.drewN nq)
              have hcx2 : (wr.drewN nq).cell? ⟨b, off + j, none⟩ = some (.string y) := hcx
              have hcy2 : (wr.drewN nq).cell? ⟨g0, k, none⟩ = some (.string y) := hcy
              clear hcx hcy HO2
              generalize wr.drewN nq = wn at *
              go_wp2_with fail
              go_quiet (fail)
              have HO4 := Lib.hid (HO3.out.drewN nq)
              clear hcx2 hcy2 HO3
              generalize wn.drewN nq = wq at *
              go_wp2_with fail
              go_round
              case rel => exact ⟨j + 1, by omega, by go_num, by rw [HS2.out]; exact HO4.out⟩
              case measure => simp [intOf]; omega
            · have hse : (y.toList == x.toList) = false := by rw [eqS]; simpa using heq
              have HHi : Hid (∀ z, (d.drop k).head? = some z → ltS x z = true) := by
                intro z hz
                rw [HYd.out] at hz
                cases hz
                rcases Bool.eq_false_or_eq_true (ltS x y) with e | e
                · exact e
                · exact absurd (ltS_ok.tot y x HYX.out e) heq
              clear heq
              go_wp2_with fail
              go_quiet (fail)
              have HO3 := Lib.hid (HO2.out.drewN nq)
              have hcx2 : (wr.drewN nq).cell? ⟨b, off + j, none⟩ = some (.string x) := hcx
              have hcy2 : (wr.drewN nq).cell? ⟨g0, k, none⟩ = some (.string y) := hcy
              clear hcx hcy HO2
              generalize wr.drewN nq = wn at *
              go_wp2_with fail
              go_quiet (fail)
              have HOb := Lib.hid (HO3.out.drewN nq)
              clear hcx2 hcy2 HO3
              generalize wn.drewN nq = wb at *
              have HP : Hid (insB ltS x d = d.take k ++ x :: d.drop k) := by
                have e := insB_parts ltS_ok.toLtPre x (d.take k) (d.drop k) HLo.out HHi.out
                rwa [List.take_append_drop] at e
              have HLb : Hid ((N + 1) * 16 ≤ 140737488355328 ∧ N + 1 ≤ maxLen) := by show _ ∧ _; have := HD.out; unfold maxLen; omega
              have HOv : Hid (wb.ownsRow 0 9 1 (.slice (some ⟨g0, 0, none⟩) N cv) N (strs d)) := by
                have h := owns_rebase HOb.out.row (base' := 0) (fun _ _ => Nat.zero_le _)
                rw [HNe.out] at h
                exact h
              go_wp2_with (at_builtin; refine wpList_push Try.elemStr _ #[.string ⟨#[]⟩] _ _ _ HOv.out rfl (one_cell _ rfl) HLb.out rfl _ _ rfl rfl rfl ?_)
              intro v1 w1 k1 m1 f1
              have HO1 : Hid (OwnS w w1 (d ++ [⟨#[]⟩]) v1) := HOb.out.pushed (by rw [HNe.out]; exact k1) m1 f1
              obtain ⟨g, c1, hv1⟩ : ∃ g cap, v1 = .slice (some ⟨g, 0, none⟩) (N + 1) cap := by
                rcases owns_cases k1 with ⟨_, h0, _⟩ | ⟨g, cap, hv, _⟩
                · omega
                · exact ⟨g, cap, hv⟩
              subst hv1
              clear k1 m1 f1 HOv HOb
              go_wp2_with fail
              go_loopw [6] (fun mv wr2 => ∃ (m : Nat) (y : ByteArray), k ≤ m ∧ m ≤ N ∧ mv = .int .i64 (m : Int) ∧ Hid (OwnS w wr2 (d.take m ++ y :: d.drop m) (.slice (some ⟨g, 0, none⟩) (N + 1) c1))) (fun mv _ => (intOf mv).toNat)
              case atStart => exact ⟨N, ⟨#[]⟩, hkN, Nat.le_refl _, rfl, by
                show OwnS _ _ _ _
                rw [List.drop_of_length_le (by have := HNe.out; omega), List.take_of_length_le (by have := HNe.out; omega)]
                exact HO1.out⟩
              case round =>
                obtain ⟨m, y, hkm, hmN, rfl, HO2⟩ := hrel
                have hlen : (d.take m ++ y :: d.drop m).length = N + 1 := by
                  rw [List.length_append, List.length_cons, List.length_take, List.length_drop]; have := HNe.out; omega
                have HLen := Lib.hid hlen
                have hmi : (m : Int) ≤ 1000000000 := by have := HD.out; omega
                have hmN' : (m : Int) < (N : Int) + 1 := by omega
                have hfm := (HO2.out.cell (i := m) (by have := HLen.out; omega)).2
                have hcm := (HO2.out.cell (i := m) (by have := HLen.out; omega)).1
                have hcx := HCt.out wr HO2.out.bel
                generalize (d.take m ++ y :: d.drop m)[m] = yy at hcm
                clear hlen
                by_cases hmk : k < m
                · have hmk' : (k : Int) < (m : Int) := by omega
                  obtain ⟨q, rfl⟩ : ∃ q, m = q + 1 := ⟨m - 1, by omega⟩
                  obtain ⟨z, hz⟩ : ∃ z, d[q]? = some z := ⟨_, List.getElem?_eq_getElem (by have := HNe.out; omega)⟩
                  have HZe := Lib.hid hz
                  have hcz : wr.cell? ⟨g, q, none⟩ = some (.string z) := by
                    rw [(HO2.out.cell (i := q) (by have := HLen.out; omega)).1, ← (List.getElem?_eq_some_iff.1 hz).2]
                    congr 2
                    rw [List.getElem_append_left (by rw [List.length_take]; have := HNe.out; omega), List.getElem_take]
                  have hqs : ((q + 1 : Nat) : Int) - 1 = (q : Int) := by omega
                  have hq0 : (0 : Int) ≤ (q : Int) := by omega
                  have HKM : Hid (k ≤ q + 1 ∧ k < q + 1 ∧ q + 1 ≤ N) := ⟨hkm, hmk, hmN⟩
                  have hqi : (q : Int) ≤ 999999999 := by omega
                  clear hz hkm hmk hmN hmi
                  have HDn : Hid (OwnS w (wr.setCell ⟨g, q + 1, none⟩ (.string z)) (d.take q ++ z :: d.drop q) (.slice (some ⟨g, 0, none⟩) (N + 1) c1)) := by
                    show OwnS _ _ _ _
                    rw [← shift_eqG d q (by have := HNe.out; have := HKM.out; omega) z (List.getElem?_eq_some_iff.1 HZe.out).2]
                    exact HO2.out.stored (shift_setG d (q + 1) y z (by have := HNe.out; have := HKM.out; omega))
                  clear HO2
                  go_wp2_with fail
                  go_round
                  case rel => exact ⟨q, z, by have := HKM.out; omega, by have := HKM.out; omega, by go_num, HDn.out⟩
                  case measure => simp [intOf]
                · have hmk2 : m = k := by omega
                  have hmk' : ¬ (k : Int) < (m : Int) := by omega
                  have HOk : Hid (OwnS w wr (d.take k ++ y :: d.drop k) (.slice (some ⟨g, 0, none⟩) (N + 1) c1)) := by
                    have h := HO2.out
                    rw [hmk2] at h
                    exact h
                  clear hcm hfm
                  have hlen : (d.take k ++ y :: d.drop k).length = N + 1 := by have h := HLen.out; rw [hmk2] at h; exact h
                  have hfk := (HOk.out.cell (i := k) (by omega)).2
                  have hck := (HOk.out.cell (i := k) (by omega)).1
                  have hkN2 : (k : Int) < (N : Int) + 1 := by omega
                  generalize (d.take k ++ y :: d.drop k)[k] = yk at hck
                  have HDn : Hid (OwnS w (wr.setCell ⟨g, k, none⟩ (.string x)) (insB ltS x d) (.slice (some ⟨g, 0, none⟩) (N + 1) c1)) := by
                    show OwnS _ _ _ _
                    rw [HP.out]
                    exact HOk.out.stored (shift_setG d k y x (by have := HNe.out; omega))
                  clear hmk2 hlen HOk hkm hmk hmN
                  clear HO2
                  go_wp2_with fail
                  go_round
                  case rel => exact ⟨j + 1, by omega, by go_num, by rw [HSt.out]; exact HDn.out⟩
                  case measure => simp [intOf]; omega
        · obtain rfl : N = k := by omega
          have hk' : ¬ (N : Int) < (N : Int) := by omega
          have HHi : Hid (∀ z, (d.drop N).head? = some z → ltS x z = true) := by
            intro z hz
            rw [List.drop_of_length_le (by have := HNe.out; omega)] at hz
            cases hz
          go_wp2_with fail
          go_quiet (fail)
          have HO3 := Lib.hid (HO2.out.drewN nq)
          clear hcx HO2
          generalize wr.drewN nq = wn at *
          go_wp2_with fail
          go_quiet (fail)
          have HOb := Lib.hid (HO3.out.drewN nq)
          clear HO3
          generalize wn.drewN nq = wb at *
          have HP : Hid (insB ltS x d = d.take N ++ x :: d.drop N) := by
            have e := insB_parts ltS_ok.toLtPre x (d.take N) (d.drop N) HLo.out HHi.out
            rwa [List.take_append_drop] at e
          have HLb : Hid ((N + 1) * 16 ≤ 140737488355328 ∧ N + 1 ≤ maxLen) := by show _ ∧ _; have := HD.out; unfold maxLen; omega
          have HOv : Hid (wb.ownsRow 0 9 1 (.slice pv N cv) N (strs d)) := by
            have h := owns_rebase HOb.out.row (base' := 0) (fun _ _ => Nat.zero_le _)
            rw [HNe.out] at h
            exact h
          go_wp2_with (at_builtin; refine wpList_push Try.elemStr _ #[.string ⟨#[]⟩] _ _ _ HOv.out rfl (one_cell _ rfl) HLb.out rfl _ _ rfl rfl rfl ?_)
          intro v1 w1 k1 m1 f1
          have HO1 : Hid (OwnS w w1 (d ++ [⟨#[]⟩]) v1) := HOb.out.pushed (by rw [HNe.out]; exact k1) m1 f1
          obtain ⟨g, c1, hv1⟩ : ∃ g cap, v1 = .slice (some ⟨g, 0, none⟩) (N + 1) cap := by
            rcases owns_cases k1 with ⟨_, h0, _⟩ | ⟨g, cap, hv, _⟩
            · omega
            · exact ⟨g, cap, hv⟩
          subst hv1
          clear k1 m1 f1 HOv HOb
          go_wp2_with fail
          go_loopw [6] (fun mv wr2 => ∃ (m : Nat) (y : ByteArray), N ≤ m ∧ m ≤ N ∧ mv = .int .i64 (m : Int) ∧ Hid (OwnS w wr2 (d.take m ++ y :: d.drop m) (.slice (some ⟨g, 0, none⟩) (N + 1) c1))) (fun mv _ => (intOf mv).toNat)
          case atStart => exact ⟨N, ⟨#[]⟩, Nat.le_refl _, Nat.le_refl _, rfl, by
            show OwnS _ _ _ _
            rw [List.drop_of_length_le (by have := HNe.out; omega), List.take_of_length_le (by have := HNe.out; omega)]
            exact HO1.out⟩
          case round =>
            obtain ⟨m, y, hNm, hmN, rfl, HO2⟩ := hrel
            have hlen : (d.take m ++ y :: d.drop m).length = N + 1 := by
              rw [List.length_append, List.length_cons, List.length_take, List.length_drop]; have := HNe.out; omega
            have HLen := Lib.hid hlen
            have hmi : (m : Int) ≤ 1000000000 := by have := HD.out; omega
            have hmN' : (m : Int) < (N : Int) + 1 := by omega
            have hfm := (HO2.out.cell (i := m) (by have := HLen.out; omega)).2
            have hcm := (HO2.out.cell (i := m) (by have := HLen.out; omega)).1
            have hcx := HCt.out wr HO2.out.bel
            generalize (d.take m ++ y :: d.drop m)[m] = yy at hcm
            clear hlen
            by_cases hmk : N < m
            · exfalso; omega
            · have hmk2 : m = N := by omega
              have hmk' : ¬ (N : Int) < (m : Int) := by omega
              have HOk : Hid (OwnS w wr (d.take N ++ y :: d.drop N) (.slice (some ⟨g, 0, none⟩) (N + 1) c1)) := by
                have h := HO2.out
                rw [hmk2] at h
                exact h
              clear hcm hfm
              have hlen : (d.take N ++ y :: d.drop N).length = N + 1 := by have h := HLen.out; rw [hmk2] at h; exact h
              have hfk := (HOk.out.cell (i := N) (by omega)).2
              have hck := (HOk.out.cell (i := N) (by omega)).1
              have hkN2 : (N : Int) < (N : Int) + 1 := by omega
              generalize (d.take N ++ y :: d.drop N)[N] = yk at hck
              have HDn : Hid (OwnS w (wr.setCell ⟨g, N, none⟩ (.string x)) (insB ltS x d) (.slice (some ⟨g, 0, none⟩) (N + 1) c1)) := by
                show OwnS _ _ _ _
                rw [HP.out]
                exact HOk.out.stored (shift_setG d N y x (by have := HNe.out; omega))
              clear hmk2 hlen HOk hNm hmk hmN
              clear HO2
              go_wp2_with fail
              go_round
              case rel => exact ⟨j + 1, by omega, by go_num, by rw [HSt.out]; exact HDn.out⟩
              case measure => simp [intOf]; omega
    · have hlt' : ¬ (j : Int) < (l.length : Int) := by omega
      rw [List.take_of_length_le (by omega)] at HO
      obtain ⟨pv, cv, hvv⟩ := (Rd.of_owns HO.out.row).shape
      subst hvv
      go_wp2_with fail
      go_ret
      exact ⟨_, rfl, HO.out⟩
end Go.Proofs.Ytmnagmbokajfpaa

end

section
/- Layer 10: the statements' own bounds. -/
set_option linter.unusedVariables false
namespace Go.Proofs.Ytmnagmbokajfpaa
open Go Go.RowKit

set_option maxHeartbeats 2000000 in
theorem long10 (lv : Value) (l : List ByteArray) (w : World) (hl : Rd w 1 lv l.length (strs l)) :
    Calls Try.prog 9 #[lv] w fun e w' => (e = .returned (.int .i64 1) ∨ (e = .returned (.int .i64 0) ∧ ∀ s ∈ l, s.size ≤ 65535)) ∧ Below w.heap.size w w' := by
  have HL := Lib.hid hl
  obtain ⟨pl, cl, hv⟩ := hl.shape
  subst hv
  have hmax : (l.length : Int) ≤ 9223372036854775807 := by have := hl.le; unfold maxLen at this; omega
  clear hl
  go_enter Try.func9, Try.ntmps9
  go_wp2_with fail
  go_loopw [7] (fun iv wr => ∃ (j : Nat), j ≤ l.length ∧ iv = .int .i64 (j : Int) ∧ Hid (∀ s ∈ l.take j, s.size ≤ 65535) ∧ Hid (Below w.heap.size w wr)) (fun iv _ => l.length - (intOf iv).toNat)
  case atStart => exact ⟨0, Nat.zero_le _, rfl, (by intro s hs; simp at hs), Below.refl _ _⟩
  case round =>
    obtain ⟨j, hj, rfl, HF, HB⟩ := hrel
    by_cases hlt : j < l.length
    · have hlt' : (j : Int) < (l.length : Int) := by omega
      obtain ⟨b, off, c', e, _, _, _⟩ := HL.out.at (fun e => by have := congrArg List.length e; rw [strs_length] at this; simp at this; subst this; simp at hlt)
      simp only [Value.slice.injEq] at e
      obtain ⟨rfl, _, rfl⟩ := e
      obtain ⟨x, hx⟩ : ∃ x, l[j]? = some x := ⟨_, List.getElem?_eq_getElem hlt⟩
      have hcx : wr.cell? ⟨b, off + j, none⟩ = some (.string x) := by rw [← (List.getElem?_eq_some_iff.1 hx).2]; exact rd1_cell (HL.out.below HB.out) hlt
      have HX := Lib.hid hx
      clear hx
      by_cases hz : (65535 : Int) < (x.size : Int)
      · go_wp2_with fail
        go_ret
        exact ⟨Or.inl rfl, HB.out⟩
      · have HF2 : Hid (∀ s ∈ l.take (j + 1), s.size ≤ 65535) := by
          intro s hs
          rw [List.take_add_one, HX.out] at hs
          rcases List.mem_append.1 hs with e | e
          · exact HF.out s e
          · simp at e; subst e; omega
        go_wp2_with fail
        go_round
        case rel => exact ⟨j + 1, by omega, by go_num, HF2.out, HB.out⟩
        case measure => simp [intOf]; omega
    · have hlt' : ¬ (j : Int) < (l.length : Int) := by omega
      have HD : Hid (∀ s ∈ l, s.size ≤ 65535) := by
        have h := HF.out
        rw [List.take_of_length_le (by omega)] at h
        exact h
      go_wp2_with fail
      go_ret
      exact ⟨Or.inr ⟨rfl, HD.out⟩, HB.out⟩
end Go.Proofs.Ytmnagmbokajfpaa

end

section
/- Arguments that came in, opened, where an element may lead on into memory (slices of slices, of structs of slices): as XOpen, but what is said of an element speaks of the world. No program in sight. -/
namespace Go.Proofs.Ytmnagmbokajfpaa
open Go Go.RowKit Go.ChangeShapes

/-- Every reading at type e is of the cells 'f a' for an 'a' that is 'ok' in that world. -/
def FlatW (P : Program) (e : TypeId) (sz : Nat) {α : Type} (f : α → List Value) (ok : World → α → Prop) : Prop :=
  P.cellsOf e = sz ∧ ∀ (H : Type) (enc : TypeId × Value → H) (w : World) (base : Nat) (spare : Nat → Bool) (held : Bool) (fuel : Nat) (cs : List Value) (x : DataW H × List MemPlace),
    DataW.trod enc P w base spare held fuel e cs = some x → ∃ a, ok w a ∧ cs = f a

theorem Flat.wide {P : Program} {e : TypeId} {sz : Nat} {α : Type} {f : α → List Value} {ok : α → Prop} (h : Flat P e sz f ok) : FlatW P e sz f (fun _ => ok) :=
  ⟨h.1, fun H enc w base spare held fuel cs x hx => h.2 H enc w base spare held fuel cs x hx⟩
theorem FlatW.map {P : Program} {e : TypeId} {sz : Nat} {α β : Type} {f : α → List Value} {ok : World → α → Prop} (h : FlatW P e sz f ok) {g : β → List Value} {ok' : World → β → Prop} (hm : ∀ w a, ok w a → ∃ b, ok' w b ∧ f a = g b) : FlatW P e sz g ok' :=
  ⟨h.1, fun H enc w base spare held fuel cs x hx => by
    obtain ⟨a, ha, rfl⟩ := h.2 H enc w base spare held fuel cs x hx
    exact hm w a ha⟩
theorem flatW_struct2 {P : Program} {e : TypeId} {f0 f1 : Field} {s0 s1 : Nat} {α β : Type} {g0 : α → List Value} {g1 : β → List Value} {k0 : World → α → Prop} {k1 : World → β → Prop}
    (he : P.underlying e = some (.struct #[f0, f1])) (hc : P.cellsOf e = s0 + s1) (o0 : f0.offset = 0) (o1 : f1.offset = s0) (h0 : FlatW P f0.type s0 g0 k0) (h1 : FlatW P f1.type s1 g1 k1) :
    FlatW P e (s0 + s1) (fun a : α × β => g0 a.1 ++ g1 a.2) (fun w a => k0 w a.1 ∧ k1 w a.2) :=
  ⟨hc, fun H enc w base spare held fuel cs x hx => by
    obtain ⟨y0, y1, n, _, hl, t0, t1⟩ := trod_struct2 he hx
    rw [o0, h0.1] at t0
    rw [o1, h1.1] at t1
    obtain ⟨a, ha, ea⟩ := h0.2 H enc w base spare held n _ _ t0
    obtain ⟨b, hb, eb⟩ := h1.2 H enc w base spare held n _ _ t1
    refine ⟨(a, b), ⟨ha, hb⟩, ?_⟩
    show cs = g0 a ++ g1 b
    rw [← ea, ← eb]
    simp only [List.drop_zero]
    rw [List.take_of_length_le (l := cs.drop s0) (by rw [List.length_drop, hl, hc]; omega), List.take_append_drop]⟩

/-- A slice that is read. -/
theorem open_rowW {P : Program} {t e : TypeId} {sz : Nat} (hsz : 0 < sz) {α : Type} [Inhabited α] {f : α → List Value} {ok : World → α → Prop} (hF : FlatW P e sz f ok) (ht : P.underlying t = some (.slice e))
    {H : Type} {enc : TypeId × Value → H} {w : World} {base : Nat} {spare : Nat → Bool} {held : Bool} {fuel : Nat} {cs : List Value} {x : DataW H × List MemPlace} (h : DataW.trod enc P w base spare held fuel t cs = some x) :
    ∃ (v : Value) (l : List α), cs = [v] ∧ (∀ a ∈ l, ok w a) ∧ Rd w sz v l.length (l.flatMap f) ∧ ((x.1 = .nil ∧ l.length = 0) ∨ ∃ elems rest, x.1 = .slice elems rest ∧ elems.length = l.length) := by
  rcases Deep.open_slice ht h with ⟨rfl, rfl⟩ | ⟨a, len, cap, m, n', D, Pl, rfl, _, hl, hm, hmm, rfl, hel⟩
  · exact ⟨_, [], rfl, by simp, Rd.nil w sz, Or.inl ⟨rfl, rfl⟩⟩
  · have hml : len ≤ m := by rw [hmm]; split <;> omega
    have hch : ∀ i, i < len → ∃ b : α, ok w b ∧ (f b).length = sz ∧ ∀ (j : Nat) (u : Value), (f b)[j]? = some u → w.cell? (a.add (i * sz + j)) = some u := by
      intro i hi
      obtain ⟨cs', h1, h2⟩ := hel i (by omega)
      rw [hF.1] at h1
      obtain ⟨b, hb, rfl⟩ := hF.2 H enc w base spare held n' _ _ h2
      obtain ⟨h3, h4⟩ := cells_get h1
      exact ⟨b, hb, h3, fun j u hu => by rw [← Deep.add_add]; exact h4 j u hu⟩
    obtain ⟨g, hg⟩ := Deep.choose_lt hch
    have hlen : ∀ b ∈ (List.range len).map g, (f b).length = sz := by
      intro b hb
      obtain ⟨i, hi, rfl⟩ := List.mem_map.1 hb
      exact (hg i (List.mem_range.1 hi)).2.1
    refine ⟨.slice (some a) len cap, (List.range len).map g, rfl, ?_, ⟨some a, cap, by simp, ?_, by simpa using hl, hm, (fun e => by cases e), ?_⟩, Or.inr ⟨_, _, rfl, by simp⟩⟩
    · intro b hb
      obtain ⟨i, hi, rfl⟩ := List.mem_map.1 hb
      exact (hg i (List.mem_range.1 hi)).1
    · rw [flatMap_len f _ hlen]
    · intro ad e j u hu
      cases e
      have hj : j = j / sz * sz + j % sz := by rw [Nat.mul_comm]; exact (Nat.div_add_mod j sz).symm
      rw [hj] at hu
      obtain ⟨b, hb, hu'⟩ := flatMap_get f _ hlen (j / sz) (j % sz) (Nat.mod_lt _ hsz) u hu
      have hlt : j / sz < len := by
        rcases Nat.lt_or_ge (j / sz) len with h | h
        · exact h
        · rw [List.getElem?_eq_none (by simpa using h)] at hb; cases hb
      rw [List.getElem?_map, List.getElem?_range hlt] at hb
      simp at hb
      subst hb
      rw [hj]
      exact (hg (j / sz) hlt).2.2 _ u hu'
/-- A slice as an element: its value, and what it holds. -/
theorem flatW_slice {P : Program} {t e : TypeId} {sz : Nat} (hsz : 0 < sz) {α : Type} [Inhabited α] {f : α → List Value} {ok : World → α → Prop} (hF : FlatW P e sz f ok) (ht : P.underlying t = some (.slice e)) (hc : P.cellsOf t = 1) :
    FlatW P t 1 (fun a : Value × List α => [a.1]) (fun w a => (∀ x ∈ a.2, ok w x) ∧ Rd w sz a.1 a.2.length (a.2.flatMap f)) :=
  ⟨hc, fun H enc w base spare held fuel cs x hx => by
    obtain ⟨v, l, rfl, h1, h2, _⟩ := open_rowW hsz hF ht hx
    exact ⟨(v, l), ⟨h1, h2⟩, rfl⟩⟩
/-- A slice that came in. -/
theorem open_flatW {P : Program} {t e : TypeId} {sz : Nat} (hsz : 0 < sz) {α : Type} [Inhabited α] {f : α → List Value} {ok : World → α → Prop} (hF : FlatW P e sz f ok) (ht : P.underlying t = some (.slice e))
    {H : Type} {enc : TypeId × Value → H} {w : World} {base : Nat} {spare : Nat → Bool} {held : Bool} {v : Value} {d : DataW H} {ps : List MemPlace} {n c : Nat} {p : Option Addr} (hv : v = .slice p n c)
    (h : DataW.Trod enc P w base spare held t v d ps) :
    ∃ l : List α, (∀ a ∈ l, ok w a) ∧ l.length = n ∧ Rd w sz v l.length (l.flatMap f) ∧ ((d = .nil ∧ l.length = 0) ∨ ∃ elems rest, d = .slice elems rest ∧ elems.length = l.length) := by
  subst hv
  obtain ⟨fuel, h⟩ := h
  obtain ⟨v, l, hcs, h1, h2, h3⟩ := open_rowW hsz hF ht h
  simp [Value.cells] at hcs
  subst hcs
  have h2' := h2
  obtain ⟨_, _, e, _⟩ := h2'
  simp only [Value.slice.injEq] at e
  exact ⟨l, h1, e.2.1.symm, h2, h3⟩
end Go.Proofs.Ytmnagmbokajfpaa

end

section
/- Layer 13: records as arguments. -/
namespace Go.Proofs.Ytmnagmbokajfpaa
open Go Go.RowKit
def labCell13 (a : Lab) : List Value := [.string a.1, .string a.2]
def labOk13 (a : Lab) : Prop := a.1.size ≤ 9223372036854775807 ∧ a.2.size ≤ 9223372036854775807
theorem flat_lab13 : Flat Try.prog 54 2 labCell13 labOk13 :=
  (flat_struct2 Try.underlying54 (by kernel_rfl) rfl rfl (flat_string Try.underlying9 (by kernel_rfl)) (flat_string Try.underlying9 (by kernel_rfl))).map fun a h =>
    ⟨a, ⟨by have := h.1; unfold maxLen at this; omega, by have := h.2; unfold maxLen at this; omega⟩, rfl⟩
abbrev RecA := (Value × List Lab) × (Value × List Int)
def recCell (a : RecA) : List Value := [a.1.1] ++ [a.2.1]
def recOk (w : World) (a : RecA) : Prop := ((∀ x ∈ a.1.2, labOk13 x) ∧ Rd w 2 a.1.1 a.1.2.length (a.1.2.flatMap labCell13)) ∧ ((∀ x ∈ a.2.2, -9223372036854775808 ≤ x ∧ x < 9223372036854775808) ∧ Rd w 1 a.2.1 a.2.2.length (a.2.2.flatMap fun z => [Value.int .i64 z]))
theorem flat_rec : FlatW Try.prog 49 2 recCell recOk :=
  flatW_struct2 Try.underlying49 (by kernel_rfl) rfl rfl (flatW_slice (by decide) flat_lab13.wide Try.underlying46 (by kernel_rfl)) (flatW_slice (by decide) (flat_i64 Try.underlying3 (by kernel_rfl)).wide Try.underlying47 (by kernel_rfl))
theorem records_in {w : World} {v : Value} {l : List RecA} (ok : ∀ a ∈ l, recOk w a) (hr : Rd w 2 v l.length (l.flatMap recCell)) : ∃ b : List Rec, SizedR b ∧ RdR w v b := by
  refine ⟨l.map fun a => (a.1.2, a.2.2), fun s hs => ?_, ⟨l.map fun a => (a.1.1, a.2.1), ?_, by simp, fun i h s hi hj => ?_⟩⟩
  · obtain ⟨a, ha, rfl⟩ := List.mem_map.1 hs
    exact ⟨(ok a ha).1.1, (ok a ha).2.1⟩
  · rw [List.length_map, two, List.flatMap_map]; exact hr
  · rw [List.getElem?_map] at hi hj
    cases e : l[i]? with
    | none => rw [e] at hi; cases hi
    | some a =>
      rw [e] at hi hj; cases hi; cases hj
      have h := ok a (List.mem_of_getElem? e)
      refine ⟨h.1.2, ?_⟩
      have h2 := h.2.2
      rw [flatMap_one] at h2
      exact h2
end Go.Proofs.Ytmnagmbokajfpaa

end
