/- Layer 13: RecordsRoundTrip, walked over the interface. -/
import Derived.Test.YtmnagmbokajfpaaMrg5
import Derived.Test.YtmnagmbokajfpaaMrg8
import Derived.Test.YtmnagmbokajfpaaMrg2
import Derived.Test.YtmnagmbokajfpaaMrg3
set_option linter.unusedVariables false
namespace Go.Proofs.Ytmnagmbokajfpaa.recordsRoundTrip
open Go Go.RowKit
variable {G : Nat} {T : World → Prop}

set_option maxRecDepth 20000 in
set_option maxHeartbeats 8000000 in
theorem walk (I : RcIf G T) (hal : ∀ w, T w → Calls Try.prog 11 #[] w fun e w' => e = .returned (.bool true) ∧ Below w.heap.size w w')
    (w : World) (hT : T w) (sv : Value) (s : List ByteArray) (oks : ∀ z ∈ s, z.size ≤ maxLen) (hs : Rd w 1 sv s.length (strs s)) (lv : Value) (l : List Rec) (okl : SizedR l) (hl : RdR w lv l) :
    Calls Try.prog 5 #[sv, lv] w fun e w' => e = .returned (.bool true) ∧ Below w.heap.size w w' := by
  have HT := Lib.hid hT; have HAL := Lib.hid hal
  have HLs := Lib.hid hs; have HSs := Lib.hid oks
  obtain ⟨ps, cs, hv⟩ := hs.shape
  subst hv
  have HLl := Lib.hid hl; have HSl := Lib.hid okl
  obtain ⟨pl, cl, hv⟩ := hl.shape
  subst hv
  clear hT hal hs oks hl okl
  go_enter Try.func5, Try.ntmps5
  go_wp2_with fail
  refine (large10 _ s w HLs.out (fun z hz => by have := HSs.out z hz; unfold maxLen at this; omega)).mono ?_
  rintro e w1 ⟨he, hB⟩
  have HB1 := Lib.hid (hB)
  have HT1 := Lib.hid (I.below HT.out hB)
  have K1s := Lib.hid (HLs.out.below hB)
  have K1l := Lib.hid (HLl.out.below hB)
  clear HT HLs HLl hB
  rcases he with rfl | ⟨rfl, h5, _⟩
  · have := trivial
    go_wp2_with fail
    refine (HAL.out _ HT1.out).mono ?_
    rintro e wz ⟨rfl, hB⟩
    have HBz := Lib.hid (HB1.out.trans (hB.mono HB1.out.size))
    go_wp2_with fail
    go_ret
    exact ⟨rfl, HBz.out⟩
  · have := trivial
    have HNS : Hid (s.length ≤ 500) := h5
    clear h5
    go_wp2_with fail
    refine (long10 _ s w1 K1s.out).mono ?_
    rintro e w2 ⟨he, hB⟩
    have HB2 := Lib.hid (HB1.out.trans (hB.mono HB1.out.size))
    have HT2 := Lib.hid (I.below HT1.out hB)
    have K2s := Lib.hid (K1s.out.below hB)
    have K2l := Lib.hid (K1l.out.below hB)
    clear HT1 HB1 K1s K1l hB
    rcases he with rfl | ⟨rfl, h6⟩
    · have := trivial
      go_wp2_with fail
      refine (HAL.out _ HT2.out).mono ?_
      rintro e wz ⟨rfl, hB⟩
      have HBz := Lib.hid (HB2.out.trans (hB.mono HB2.out.size))
      go_wp2_with fail
      go_ret
      exact ⟨rfl, HBz.out⟩
    · have := trivial
      have HFS : Hid (∀ z ∈ s, z.size ≤ 65535) := h6
      clear h6
      go_wp2_with fail
      refine (large13 _ l w2 K2l.out HSl.out).mono ?_
      rintro e w3 ⟨he, hB⟩
      have HB3 := Lib.hid (HB2.out.trans (hB.mono HB2.out.size))
      have HT3 := Lib.hid (I.below HT2.out hB)
      have K3s := Lib.hid (K2s.out.below hB)
      have K3l := Lib.hid (K2l.out.below hB)
      clear HT2 HB2 K2s K2l hB
      rcases he with rfl | ⟨rfl, h7, _⟩
      · have := trivial
        go_wp2_with fail
        refine (HAL.out _ HT3.out).mono ?_
        rintro e wz ⟨rfl, hB⟩
        have HBz := Lib.hid (HB3.out.trans (hB.mono HB3.out.size))
        go_wp2_with fail
        go_ret
        exact ⟨rfl, HBz.out⟩
      · have := trivial
        have Ml := Lib.hid h7
        clear h7
        have HA0 : Hid (Below w3.heap.size w3 (w3.alloc (.cells #[] 9))) := (Below.refl _ _).alloc (Nat.le_refl _) _
        have HO0 : Hid (OwnS w3 (w3.alloc (.cells #[] 9)) [] (.slice (some ⟨w3.heap.size, 0, none⟩) 0 0)) := ⟨World.ownsRow_lit (base := w3.heap.size) w3 #[] 0 (Nat.le_refl _) (by simp [maxLen]) (by simp), HA0.out⟩
        have HOz0 := Lib.hid HO0.out.base0
        have HSd0 := Lib.hid (K3s.out.below HA0.out)
        have HLz0 : Hid ((([] : List ByteArray).length + s.length) * 16 ≤ 140737488355328 ∧ ([] : List ByteArray).length + s.length ≤ maxLen) := by show _ ∧ _; have := HNS.out; simp only [List.length_nil]; unfold maxLen; omega
        go_wp2_with (at_builtin; refine wpList_extend Try.elemStr _ _ _ _ _ _ _ HOz0.out HSd0.out (strs_one s) HLz0.out rfl _ _ rfl rfl rfl ?_)
        intro va wa m1 m2 m3
        have HOa0 : Hid (OwnS w3 wa s va) := by
          have hlit : ∀ k, (Value.slice (some ⟨w3.heap.size, 0, none⟩) 0 0).ownBlock = some k → k = w3.heap.size := fun k hk => by simp [Value.ownBlock] at hk; exact hk.symm
          refine ⟨owns_rebase m1 (fun k hk => ?_), HA0.out.trans (m2.below HA0.out.size (fun k hk e => by have := hlit k e; omega))⟩
          rcases m3 k hk with e | e
          · have := hlit k e; omega
          · omega
        obtain ⟨pa0, ca0, hva0⟩ := HOa0.out.shape
        subst hva0
        clear m1 m2 m3 HOz0 HSd0 HLz0 HO0 HA0
        have hlni : (l.length : Int) ≤ 300 := by have := Ml.out.len; omega
        go_wp2_with fail
        go_loopw [5, 33] (fun vv iv wr => ∃ (i : Nat), i ≤ l.length ∧ iv = .int .i64 (i : Int) ∧ Hid (OwnS w3 wr (s ++ usedR (l.take i)) vv)) (fun _ iv _ => l.length - (intOf iv).toNat)
        case atStart => exact ⟨0, Nat.zero_le _, rfl, (by show OwnS _ _ _ _; rw [List.take_zero, show usedR [] = [] from rfl, List.append_nil]; exact HOa0.out)⟩
        case round =>
          obtain ⟨i, hi, rfl, HO⟩ := hrel
          have him : (i : Int) ≤ 300 := by omega
          obtain ⟨pv, cv, hvv⟩ := HO.out.shape
          subst hvv
          by_cases hlt : i < l.length
          · have hlt' : (i : Int) < (l.length : Int) := by omega
            obtain ⟨⟨labs, chs⟩, hr⟩ : ∃ r, l[i]? = some r := ⟨_, List.getElem?_eq_getElem hlt⟩
            obtain ⟨blk, off, h1, h2, e, ⟨q1, k1, e1⟩, ⟨q2, k2, e2⟩, hat⟩ := K3l.out.always hr
            simp only at e1 e2
            subst e; subst e1; subst e2
            obtain ⟨d0, d1, hra⟩ := hat wr HO.out.bel
            have HLb : Hid (labs.length ≤ 200) := Ml.out.lab _ (List.mem_of_getElem? hr)
            have HUs : Hid (usedR (l.take (i + 1)) = usedR (l.take i) ++ stringsL labs) := by show _ = _; rw [List.take_add_one, hr]; simp [usedR]
            have HUl : Hid ((s ++ usedR (l.take i)).length ≤ 1000 + 300 * 400) := by
              show _ ≤ _
              have h5 := flat_bound (fun r : Rec => stringsL r.1) 400 (l.take i) (fun r hr => by rw [stringsL_len]; have := Ml.out.lab r (List.mem_of_mem_take hr); omega)
              have h6 : (usedR (l.take i)).length ≤ 300 * 400 := Nat.le_trans h5 (Nat.mul_le_mul_right _ (by rw [List.length_take]; have := Ml.out.len; omega))
              rw [List.length_append]
              have := HNS.out
              omega
            have hA : Below wr.heap.size wr (wr.alloc (.cells #[.slice q1 labs.length k1, .slice q2 chs.length k2] 49)) := (Below.refl _ _).alloc (Nat.le_refl _) _
            have HOb := Lib.hid (HO.out.below hA)
            have HSr := Lib.hid (ref_strings11 (.slice q1 labs.length k1) labs (wr.alloc (.cells #[.slice q1 labs.length k1, .slice q2 chs.length k2] 49)) (hra.1.below hA) (by have := HLb.out; omega))
            obtain ⟨L, hL⟩ : ∃ L, s ++ usedR (l.take i) = L := ⟨_, rfl⟩
            have HLe : Hid (s ++ usedR (l.take (i + 1)) = L ++ stringsL labs) := by show _ = _; rw [HUs.out, ← List.append_assoc, hL]
            rw [hL] at HOb HUl ⊢
            have HSl : Hid ((stringsL labs).length ≤ 400) := by show _ ≤ _; rw [stringsL_len]; have := HLb.out; omega
            clear hr hat hra hA HO hL
            go_wp2_with fail
            refine HSr.out.mono ?_
            rintro en w2a ⟨sv2, rfl, hS⟩
            have HOc := Lib.hid (HOb.out.below hS.bel)
            have HSd := Lib.hid hS.rd
            have HOz := Lib.hid HOc.out.base0
            have HLz : Hid ((L.length + (stringsL labs).length) * 16 ≤ 140737488355328 ∧ L.length + (stringsL labs).length ≤ maxLen) := by show _ ∧ _; have := HUl.out; have := HSl.out; unfold maxLen; omega
            obtain ⟨ps2, cs2, hsv⟩ := hS.shape
            subst hsv
            obtain ⟨SL, hSL⟩ : ∃ SL, stringsL labs = SL := ⟨_, rfl⟩
            rw [hSL] at HSd HLz HLe ⊢
            clear hS HSr HOb hSL HSl
            go_wp2_with (at_builtin; refine wpList_extend Try.elemStr _ _ _ _ _ _ _ HOz.out HSd.out (strs_one SL) HLz.out rfl _ _ rfl rfl rfl ?_)
            intro v3 w3a m1 m2 m3
            obtain ⟨L2, hL2⟩ : ∃ L2, s ++ usedR (l.take (i + 1)) = L2 := ⟨_, rfl⟩
            have HL2 := Lib.hid hL2
            have HOd : Hid (OwnS w3 w3a L2 v3) := by show OwnS _ _ _ _; rw [← hL2, HLe.out]; exact HOc.out.extended (e := SL) m1 m2 m3
            obtain ⟨p3, c3, hv3⟩ := HOd.out.shape
            subst hv3
            clear m1 m2 m3 HOz HSd HOc HLe hL2
            go_wp2_with fail
            go_round
            case rel => exact ⟨i + 1, by omega, by go_num, (by show OwnS _ _ _ _; rw [HL2.out]; exact HOd.out)⟩
            case measure => simp [intOf]; omega
          · have hlt' : ¬ (i : Int) < (l.length : Int) := by omega
            have hte : l.take i = l := List.take_of_length_le (by omega)
            rw [hte] at HO
            obtain ⟨al, hal2⟩ : ∃ al, s ++ usedR l = al := ⟨_, rfl⟩
            have HAe := Lib.hid hal2
            rw [hal2] at HO
            obtain ⟨pa, ca, hva⟩ : ∃ p c, Value.slice pv (s ++ usedR (l.take i)).length cv = .slice p al.length c := by rw [hte, hal2]; exact ⟨_, _, rfl⟩
            have hlen : (s ++ usedR (l.take i)).length = al.length := by rw [hte, hal2]
            rw [hlen]
            clear hva hlen hte hal2 hlt hi
            have hOa := HO.out
            have R4a : Hid (Rd wr 1 (.slice pv al.length cv) al.length (strs al)) := by have h := HO.out.rd; exact h
            have HBl := Lib.hid HO.out.bel
            clear hOa HO
            obtain ⟨w4, hw4⟩ : ∃ x, x = wr := ⟨_, rfl⟩
            rw [← hw4] at R4a HBl ⊢
            clear hw4
            have hBl := HBl.out
            have HB4 := Lib.hid (HB3.out.trans (hBl.mono HB3.out.size))
            have HT4 := Lib.hid (I.below HT3.out hBl)
            have K4s := Lib.hid (K3s.out.below hBl)
            have K4l := Lib.hid (K3l.out.below hBl)
            clear HT3 HB3 K3s K3l 
            clear hBl
            have HSa : Hid (∀ z ∈ al, z.size ≤ maxLen) := by
              intro z hz
              rw [← HAe.out] at hz
              rcases List.mem_append.1 hz with e | e
              · exact HSs.out z e
              · obtain ⟨r, hr, hzr⟩ := List.mem_flatMap.1 e
                obtain ⟨x, hx, hzx⟩ := List.mem_flatMap.1 hzr
                have h5 := (HSl.out r hr).1 x hx
                simp only [List.mem_cons, List.not_mem_nil, or_false] at hzx
                unfold maxLen
                rcases hzx with rfl | rfl <;> omega
            have HSal := HSa
            go_wp2_with fail
            refine (large10 _ al w4 R4a.out (fun z hz => by have := HSal.out z hz; unfold maxLen at this; omega)).mono ?_
            rintro e w5 ⟨he, hB⟩
            have HB5 := Lib.hid (HB4.out.trans (hB.mono HB4.out.size))
            have HT5 := Lib.hid (I.below HT4.out hB)
            have K5s := Lib.hid (K4s.out.below hB)
            have K5l := Lib.hid (K4l.out.below hB)
            have K5al := Lib.hid (R4a.out.below hB)
            clear HT4 HB4 K4s K4l R4a hB
            rcases he with rfl | ⟨rfl, h5, _⟩
            · have := trivial
              go_wp2_with fail
              refine (HAL.out _ HT5.out).mono ?_
              rintro e wz ⟨rfl, hB⟩
              have HBz := Lib.hid (HB5.out.trans (hB.mono HB5.out.size))
              go_wp2_with fail
              go_ret
              exact ⟨rfl, HBz.out⟩
            · have := trivial
              have HNA : Hid (al.length ≤ 500) := h5
              clear h5
              go_wp2_with fail
              refine (long10 _ al w5 K5al.out).mono ?_
              rintro e w6 ⟨he, hB⟩
              have HB6 := Lib.hid (HB5.out.trans (hB.mono HB5.out.size))
              have HT6 := Lib.hid (I.below HT5.out hB)
              have K6s := Lib.hid (K5s.out.below hB)
              have K6l := Lib.hid (K5l.out.below hB)
              have K6al := Lib.hid (K5al.out.below hB)
              clear HT5 HB5 K5s K5l K5al hB
              rcases he with rfl | ⟨rfl, h6⟩
              · have := trivial
                go_wp2_with fail
                refine (HAL.out _ HT6.out).mono ?_
                rintro e wz ⟨rfl, hB⟩
                have HBz := Lib.hid (HB6.out.trans (hB.mono HB6.out.size))
                go_wp2_with fail
                go_ret
                exact ⟨rfl, HBz.out⟩
              · have := trivial
                have HFA : Hid (∀ z ∈ al, z.size ≤ 65535) := h6
                clear h6
                go_wp2_with fail
                refine (ref_table10 _ al w6 K6al.out (by have := HNA.out; omega)).mono ?_
                rintro e w7 ⟨tv, rfl, hO⟩
                have R7t : Hid (Rd w7 1 tv (tabS al).length (strs (tabS al))) := hO.rd
                obtain ⟨pt, ct, hv⟩ := R7t.out.shape
                subst hv
                have HB7 := Lib.hid (HB6.out.trans (hO.bel.mono HB6.out.size))
                have HT7 := Lib.hid (I.below HT6.out hO.bel)
                have K7s := Lib.hid (K6s.out.below hO.bel)
                have K7l := Lib.hid (K6l.out.below hO.bel)
                have K7al := Lib.hid (K6al.out.below hO.bel)
                clear HT6 HB6 K6s K6l K6al 
                clear hO
                have HTa := Lib.hid (tabS_asc al); have HTf : Hid (Fits (tabS al)) := tabS_fits HFA.out; have HTn : Hid ((tabS al).length ≤ 1000) := by show _ ≤ _; have := tabS_len al; have := HNA.out; omega
                obtain ⟨t, ht⟩ : ∃ t, tabS al = t := ⟨_, rfl⟩
                rw [ht] at R7t HTa HTf HTn ⊢
                have HTe := Lib.hid ht
                clear ht
                have HIn : Hid (∀ r ∈ l, ∀ x ∈ r.1, labIn t x) := by
                  intro r hr x hx
                  have hu : ∀ z, z = x.1 ∨ z = x.2 → z ∈ t := fun z hz => by
                    rw [← HTe.out]
                    refine (tabS_mem al z).2 ?_
                    rw [← HAe.out]
                    refine List.mem_append.2 (Or.inr (List.mem_flatMap.2 ⟨r, hr, List.mem_flatMap.2 ⟨x, hx, ?_⟩⟩))
                    simp only [List.mem_cons, List.not_mem_nil, or_false]
                    exact hz
                  exact ⟨hu _ (Or.inl rfl), hu _ (Or.inr rfl)⟩
                go_wp2_with fail
                refine (prog13 _ l w7 K7l.out (by have := Ml.out.len; omega)).mono ?_
                rintro e w8 ⟨xv, rfl, hds, hN⟩
                have R8x := Lib.hid hN.rd
                obtain ⟨px, cx, hv⟩ := R8x.out.shape
                subst hv
                have HB8 := Lib.hid (HB7.out.trans (hN.row.bel.mono HB7.out.size))
                have HT8 := Lib.hid (I.below HT7.out hN.row.bel)
                have K8s := Lib.hid (K7s.out.below hN.row.bel)
                have K8l := Lib.hid (K7l.out.below hN.row.bel)
                have K8al := Lib.hid (K7al.out.below hN.row.bel)
                have K8t := Lib.hid (R7t.out.below hN.row.bel)
                clear HT7 HB7 K7s K7l K7al R7t 
                clear hN
                have HLe := Lib.hid (encRc_len (t := t) (by have := HTn.out; omega) Ml.out HSl.out)
                have hen := I.encode _ _ t l w8 HT8.out K8t.out (by have := HTn.out; omega) HTa.out HTf.out R8x.out HSl.out Ml.out.small (by have := HLe.out; omega)
                by_cases h0 : recsErr t l = 0
                · have henc : encRcR t l = (0, encRc t l) := if_pos h0
                  rw [henc] at hen
                  have HEn := Lib.hid hen
                  have HLt := Lib.hid (encRc_lt HTa.out (by have := HTn.out; omega) h0 (lens_of_small Ml.out.small))
                  have HBk := Lib.hid (decRc_back HTa.out (by have := HTn.out; omega) h0 (lens_of_small Ml.out.small))
                  clear hen henc h0
                  generalize encRc t l = B at *
                  go_wp2_with fail
                  refine (HEn.out).mono ?_
                  rintro e w9 ⟨⟨r, rfl, hr, _⟩, hB⟩
                  have R9b : Hid (Rd w9 1 r B.length (u8s B)) := hr
                  obtain ⟨pb, cb, hv⟩ := R9b.out.shape
                  subst hv
                  have HB9 := Lib.hid (HB8.out.trans (hB.mono HB8.out.size))
                  have HT9 := Lib.hid (I.below HT8.out hB)
                  have K9t := Lib.hid (K8t.out.below hB)
                  have K9x := Lib.hid (R8x.out.below hB)
                  clear HT8 HB8 K8t R8x hB
                  clear hr HEn
                  have hde := I.decode _ _ t B w9 HT9.out K9t.out (by have := HTn.out; omega) HTa.out HTf.out R9b.out HLt.out (by have := HLe.out; omega)
                  rw [HBk.out] at hde
                  have HDe := Lib.hid hde
                  clear hde
                  go_wp2_with fail
                  refine (HDe.out).mono ?_
                  rintro e w10 ⟨⟨r, rfl, hr, _⟩, hB⟩
                  have R10m : Hid (RdR w10 r l) := hr
                  obtain ⟨pm, cm, hv⟩ := R10m.out.shape
                  subst hv
                  have HB10 := Lib.hid (HB9.out.trans (hB.mono HB9.out.size))
                  have HT10 := Lib.hid (I.below HT9.out hB)
                  have K10t := Lib.hid (K9t.out.below hB)
                  have K10x := Lib.hid (K9x.out.below hB)
                  have K10b := Lib.hid (R9b.out.below hB)
                  clear HT9 HB9 K9t K9x R9b hB
                  clear hr HDe
                  go_wp2_with fail
                  refine (HAL.out _ HT10.out).mono ?_
                  rintro e w11 ⟨rfl, hB⟩
                  have HB11 := Lib.hid (HB10.out.trans (hB.mono HB10.out.size))
                  have HT11 := Lib.hid (I.below HT10.out hB)
                  have K11t := Lib.hid (K10t.out.below hB)
                  have K11x := Lib.hid (K10x.out.below hB)
                  have K11b := Lib.hid (K10b.out.below hB)
                  have K11m := Lib.hid (R10m.out.below hB)
                  clear HT10 HB10 K10t K10x K10b R10m hB
                  go_wp2_with fail
                  refine (refr13 _ l w11 K11m.out (by have := Ml.out.len; omega)).mono ?_
                  rintro e w12 ⟨yv, rfl, hds2, hN⟩
                  have R12y := Lib.hid hN.rd
                  obtain ⟨py, cy, hv⟩ := R12y.out.shape
                  subst hv
                  have HB12 := Lib.hid (HB11.out.trans (hN.row.bel.mono HB11.out.size))
                  have HT12 := Lib.hid (I.below HT11.out hN.row.bel)
                  have K12t := Lib.hid (K11t.out.below hN.row.bel)
                  have K12x := Lib.hid (K11x.out.below hN.row.bel)
                  have K12b := Lib.hid (K11b.out.below hN.row.bel)
                  have K12m := Lib.hid (K11m.out.below hN.row.bel)
                  clear HT11 HB11 K11t K11x K11b K11m 
                  clear hN
                  go_wp2_with fail
                  refine (refr13 _ l w12 K12x.out (by have := Ml.out.len; omega)).mono ?_
                  rintro e w13 ⟨zv, rfl, hds3, hN⟩
                  have R13z := Lib.hid hN.rd
                  obtain ⟨pz, cz, hv⟩ := R13z.out.shape
                  subst hv
                  have HB13 := Lib.hid (HB12.out.trans (hN.row.bel.mono HB12.out.size))
                  have HT13 := Lib.hid (I.below HT12.out hN.row.bel)
                  have K13t := Lib.hid (K12t.out.below hN.row.bel)
                  have K13x := Lib.hid (K12x.out.below hN.row.bel)
                  have K13b := Lib.hid (K12b.out.below hN.row.bel)
                  have K13m := Lib.hid (K12m.out.below hN.row.bel)
                  have K13y := Lib.hid (R12y.out.below hN.row.bel)
                  clear HT12 HB12 K12t K12x K12b K12m R12y 
                  clear hN
                  go_wp2_with fail
                  refine (ref_same13 _ _ l l w13 K13y.out R13z.out Ml.out.small Ml.out.small).mono ?_
                  rintro e w14 ⟨rfl, hB⟩
                  have HB14 := Lib.hid (HB13.out.trans (hB.mono HB13.out.size))
                  have HT14 := Lib.hid (I.below HT13.out hB)
                  have K14t := Lib.hid (K13t.out.below hB)
                  have K14x := Lib.hid (K13x.out.below hB)
                  have K14b := Lib.hid (K13b.out.below hB)
                  have K14m := Lib.hid (K13m.out.below hB)
                  have K14y := Lib.hid (K13y.out.below hB)
                  have K14z := Lib.hid (R13z.out.below hB)
                  clear HT13 HB13 K13t K13x K13b K13m K13y R13z hB
                  rw [decide_eq_true (rfl : l = l)]
                  go_wp2_with fail
                  go_ret
                  exact ⟨rfl, HB14.out⟩
                · have h23 : recsErr t l = 23 := (recsErr_in HIn.out).resolve_left h0
                  have henc : encRcR t l = (23, []) := encRcR_bad (by decide) h23
                  rw [henc] at hen
                  have HEn := Lib.hid hen
                  clear hen henc h23 h0
                  go_wp2_with fail
                  refine (HEn.out).mono ?_
                  rintro e w9 ⟨⟨r, rfl, hr, _⟩, hB⟩
                  have R9b : Hid (Rd w9 1 r ([] : List Nat).length (u8s [])) := hr
                  obtain ⟨pb, cb, hv⟩ := R9b.out.shape
                  subst hv
                  have HB9 := Lib.hid (HB8.out.trans (hB.mono HB8.out.size))
                  have HT9 := Lib.hid (I.below HT8.out hB)
                  have K9t := Lib.hid (K8t.out.below hB)
                  have K9x := Lib.hid (R8x.out.below hB)
                  clear HT8 HB8 K8t R8x hB
                  clear hr HEn
                  go_wp2_with fail
                  refine (HAL.out _ HT9.out).mono ?_
                  rintro e w10 ⟨rfl, hB⟩
                  have HB10 := Lib.hid (HB9.out.trans (hB.mono HB9.out.size))
                  have HT10 := Lib.hid (I.below HT9.out hB)
                  have K10t := Lib.hid (K9t.out.below hB)
                  have K10x := Lib.hid (K9x.out.below hB)
                  clear HT9 HB9 K9t K9x hB
                  go_wp2_with fail
                  go_ret
                  exact ⟨rfl, HB10.out⟩
end Go.Proofs.Ytmnagmbokajfpaa.recordsRoundTrip
