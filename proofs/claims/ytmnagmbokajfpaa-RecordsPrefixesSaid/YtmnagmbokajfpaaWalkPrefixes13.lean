/- Layer 13: RecordsPrefixes, walked over the interface. -/
import Derived.Test.YtmnagmbokajfpaaMrg5
import Derived.Test.YtmnagmbokajfpaaMrg8
import Derived.Test.YtmnagmbokajfpaaMrg2
import Derived.Test.YtmnagmbokajfpaaMrg3
set_option linter.unusedVariables false
namespace Go.Proofs.Ytmnagmbokajfpaa.recordsPrefixes
open Go Go.RowKit
variable {G : Nat} {T : World → Prop}

set_option maxRecDepth 20000 in
set_option maxHeartbeats 8000000 in
theorem walk (I : RcIf G T) (hal : ∀ w, T w → Calls Try.prog 11 #[] w fun e w' => e = .returned (.bool true) ∧ Below w.heap.size w w')
    (w : World) (hT : T w) (lv : Value) (l : List Rec) (okl : SizedR l) (hl : RdR w lv l) (cn : Nat) (hc : cn < 256) :
    Calls Try.prog 7 #[lv, .int .u8 (cn : Int)] w fun e w' => e = .returned (.bool true) ∧ Below w.heap.size w w' := by
  have HT := Lib.hid hT; have HAL := Lib.hid hal; have HCn := Lib.hid hc
  have HLl := Lib.hid hl; have HSl := Lib.hid okl
  obtain ⟨pl, cl, hv⟩ := hl.shape
  subst hv
  clear hT hal hl okl
  go_enter Try.func7, Try.ntmps7
  go_wp2_with fail
  refine (large13 _ l w HLl.out HSl.out).mono ?_
  rintro e w1 ⟨he, hB⟩
  have HB1 := Lib.hid (hB)
  have HT1 := Lib.hid (I.below HT.out hB)
  have K1l := Lib.hid (HLl.out.below hB)
  clear HT HLl hB
  rcases he with rfl | ⟨rfl, h7, _⟩
  · have := trivial
    go_wp2_with fail
    refine (HAL.out _ HT1.out).mono ?_
    rintro e wz ⟨rfl, hB⟩
    have HBz := Lib.hid (HB1.out.trans (hB.mono HB1.out.size))
    go_wp2_with fail
    go_ret
    exact ⟨rfl, HBz.out⟩
  · have := trivial
    have Ml := Lib.hid h7
    clear h7
    by_cases h10 : (10 : Int) < (l.length : Int)
    · have := trivial
      go_wp2_with fail
      refine (HAL.out _ HT1.out).mono ?_
      rintro e wz ⟨rfl, hB⟩
      have HBz := Lib.hid (HB1.out.trans (hB.mono HB1.out.size))
      go_wp2_with fail
      go_ret
      exact ⟨rfl, HBz.out⟩
    · have HL10 : Hid (l.length ≤ 10) := by show _ ≤ _; omega
      have HOa0 : Hid (OwnS w1 w1 [] (.slice none 0 0)) := Own1.nil _
      have hlni : (l.length : Int) ≤ 300 := by have := Ml.out.len; omega
      go_wp2_with fail
      go_loopw [5, 27] (fun vv iv wr => ∃ (i : Nat), i ≤ l.length ∧ iv = .int .i64 (i : Int) ∧ Hid (OwnS w1 wr (([] : List ByteArray) ++ usedR (l.take i)) vv)) (fun _ iv _ => l.length - (intOf iv).toNat)
      case atStart => exact ⟨0, Nat.zero_le _, rfl, (by show OwnS _ _ _ _; rw [List.take_zero, show usedR [] = [] from rfl, List.append_nil]; exact HOa0.out)⟩
      case round =>
        obtain ⟨i, hi, rfl, HO⟩ := hrel
        have him : (i : Int) ≤ 300 := by omega
        obtain ⟨pv, cv, hvv⟩ := HO.out.shape
        subst hvv
        by_cases hlt : i < l.length
        · have hlt' : (i : Int) < (l.length : Int) := by omega
          obtain ⟨⟨labs, chs⟩, hr⟩ : ∃ r, l[i]? = some r := ⟨_, List.getElem?_eq_getElem hlt⟩
          obtain ⟨blk, off, h1, h2, e, ⟨q1, k1, e1⟩, ⟨q2, k2, e2⟩, hat⟩ := K1l.out.always hr
          simp only at e1 e2
          subst e; subst e1; subst e2
          obtain ⟨d0, d1, hra⟩ := hat wr HO.out.bel
          have HLb : Hid (labs.length ≤ 200) := Ml.out.lab _ (List.mem_of_getElem? hr)
          have HUs : Hid (usedR (l.take (i + 1)) = usedR (l.take i) ++ stringsL labs) := by show _ = _; rw [List.take_add_one, hr]; simp [usedR]
          have HUl : Hid ((([] : List ByteArray) ++ usedR (l.take i)).length ≤ 1000 + 300 * 400) := by
            show _ ≤ _
            have h5 := flat_bound (fun r : Rec => stringsL r.1) 400 (l.take i) (fun r hr => by rw [stringsL_len]; have := Ml.out.lab r (List.mem_of_mem_take hr); omega)
            have h6 : (usedR (l.take i)).length ≤ 300 * 400 := Nat.le_trans h5 (Nat.mul_le_mul_right _ (by rw [List.length_take]; have := Ml.out.len; omega))
            rw [List.length_append]
            have := (by simp : ([] : List ByteArray).length ≤ 500)
            omega
          have hA : Below wr.heap.size wr (wr.alloc (.cells #[.slice q1 labs.length k1, .slice q2 chs.length k2] 49)) := (Below.refl _ _).alloc (Nat.le_refl _) _
          have HOb := Lib.hid (HO.out.below hA)
          have HSr := Lib.hid (ref_strings11 (.slice q1 labs.length k1) labs (wr.alloc (.cells #[.slice q1 labs.length k1, .slice q2 chs.length k2] 49)) (hra.1.below hA) (by have := HLb.out; omega))
          obtain ⟨L, hL⟩ : ∃ L, ([] : List ByteArray) ++ usedR (l.take i) = L := ⟨_, rfl⟩
          have HLe : Hid (([] : List ByteArray) ++ usedR (l.take (i + 1)) = L ++ stringsL labs) := by show _ = _; rw [HUs.out, ← List.append_assoc, hL]
          rw [hL] at HOb HUl ⊢
          have HSl : Hid ((stringsL labs).length ≤ 400) := by show _ ≤ _; rw [stringsL_len]; have := HLb.out; omega
          clear hr hat hra hA HO hL
          go_wp2_with fail
          refine HSr.out.mono ?_
          rintro en w2a ⟨sv2, rfl, hS⟩
          have HOc := Lib.hid (HOb.out.below hS.bel)
          have HSd := Lib.hid hS.rd
          have HOz := Lib.hid HOc.out.base0
          have HLz : Hid ((L.length + (stringsL labs).length) * 16 ≤ 140737488355328 ∧ L.length + (stringsL labs).length ≤ maxLen) := by show _ ∧ _; have := HUl.out; have := HSl.out; unfold maxLen; omega
          obtain ⟨ps2, cs2, hsv⟩ := hS.shape
          subst hsv
          obtain ⟨SL, hSL⟩ : ∃ SL, stringsL labs = SL := ⟨_, rfl⟩
          rw [hSL] at HSd HLz HLe ⊢
          clear hS HSr HOb hSL HSl
          go_wp2_with (at_builtin; refine wpList_extend Try.elemStr _ _ _ _ _ _ _ HOz.out HSd.out (strs_one SL) HLz.out rfl _ _ rfl rfl rfl ?_)
          intro v3 w3a m1 m2 m3
          obtain ⟨L2, hL2⟩ : ∃ L2, ([] : List ByteArray) ++ usedR (l.take (i + 1)) = L2 := ⟨_, rfl⟩
          have HL2 := Lib.hid hL2
          have HOd : Hid (OwnS w1 w3a L2 v3) := by show OwnS _ _ _ _; rw [← hL2, HLe.out]; exact HOc.out.extended (e := SL) m1 m2 m3
          obtain ⟨p3, c3, hv3⟩ := HOd.out.shape
          subst hv3
          clear m1 m2 m3 HOz HSd HOc HLe hL2
          go_wp2_with fail
          go_round
          case rel => exact ⟨i + 1, by omega, by go_num, (by show OwnS _ _ _ _; rw [HL2.out]; exact HOd.out)⟩
          case measure => simp [intOf]; omega
        · have hlt' : ¬ (i : Int) < (l.length : Int) := by omega
          have hte : l.take i = l := List.take_of_length_le (by omega)
          rw [hte] at HO
          obtain ⟨al, hal2⟩ : ∃ al, ([] : List ByteArray) ++ usedR l = al := ⟨_, rfl⟩
          have HAe := Lib.hid hal2
          rw [hal2] at HO
          obtain ⟨pa, ca, hva⟩ : ∃ p c, Value.slice pv (([] : List ByteArray) ++ usedR (l.take i)).length cv = .slice p al.length c := by rw [hte, hal2]; exact ⟨_, _, rfl⟩
          have hlen : (([] : List ByteArray) ++ usedR (l.take i)).length = al.length := by rw [hte, hal2]
          rw [hlen]
          clear hva hlen hte hal2 hlt hi
          have R2a : Hid (Rd wr 1 (.slice pv al.length cv) al.length (strs al)) := HO.out.rd
          have HBl := Lib.hid HO.out.bel
          clear HO
          obtain ⟨w2, hw2⟩ : ∃ x, x = wr := ⟨_, rfl⟩
          rw [← hw2] at R2a HBl ⊢
          clear hw2
          have hBl := HBl.out
          have HB2 := Lib.hid (HB1.out.trans (hBl.mono HB1.out.size))
          have HT2 := Lib.hid (I.below HT1.out hBl)
          have K2l := Lib.hid (K1l.out.below hBl)
          clear HT1 HB1 K1l 
          clear hBl
          have HAe2 : Hid (usedR l = al) := by show _ = _; rw [← HAe.out, List.nil_append]
          have HAl : Hid (al.length ≤ 4000) := by
            show _ ≤ _
            rw [← HAe2.out]
            have h5 := flat_bound (fun r : Rec => stringsL r.1) 400 l (fun r hr => by rw [stringsL_len]; have := Ml.out.lab r hr; omega)
            have h6 : (usedR l).length ≤ 10 * 400 := Nat.le_trans h5 (Nat.mul_le_mul_right _ HL10.out)
            omega
          go_wp2_with fail
          refine (ref_table10 _ al w2 R2a.out (by have := HAl.out; omega)).mono ?_
          rintro e w3 ⟨tv, rfl, hO⟩
          have R3t : Hid (Rd w3 1 tv (tabS al).length (strs (tabS al))) := hO.rd
          have HTo : Hid (∀ k, tv.ownBlock = some k → k < w3.heap.size) := fun k hk => (hO.row.lt k hk).2
          obtain ⟨pt, ct, hv⟩ := R3t.out.shape
          subst hv
          have HB3 := Lib.hid (HB2.out.trans (hO.bel.mono HB2.out.size))
          have HT3 := Lib.hid (I.below HT2.out hO.bel)
          have K3l := Lib.hid (K2l.out.below hO.bel)
          have K3al := Lib.hid (R2a.out.below hO.bel)
          clear HT2 HB2 K2l R2a 
          clear hO
          have HTa := Lib.hid (tabS_asc al); have HTn : Hid ((tabS al).length ≤ 4000) := by show _ ≤ _; have := tabS_len al; have := HAl.out; omega
          obtain ⟨t, ht⟩ : ∃ t, tabS al = t := ⟨_, rfl⟩
          rw [ht] at R3t HTa HTn HTo ⊢
          have HTe := Lib.hid ht
          clear ht
          have HIn : Hid (∀ r ∈ l, ∀ x ∈ r.1, labIn t x) := by
            intro r hr x hx
            have hu : ∀ z, z = x.1 ∨ z = x.2 → z ∈ t := fun z hz => by
              rw [← HTe.out]
              refine (tabS_mem al z).2 ?_
              rw [← HAe2.out]
              refine List.mem_flatMap.2 ⟨r, hr, List.mem_flatMap.2 ⟨x, hx, ?_⟩⟩
              simp only [List.mem_cons, List.not_mem_nil, or_false]
              exact hz
            exact ⟨hu _ (Or.inl rfl), hu _ (Or.inr rfl)⟩
          go_wp2_with fail
          refine (prog13 _ l w3 K3l.out (by have := Ml.out.len; omega)).mono ?_
          rintro e w4 ⟨xv, rfl, hds, hN⟩
          have R4x := Lib.hid hN.rd
          obtain ⟨px, cx, hv⟩ := R4x.out.shape
          subst hv
          have HTo4 : Hid (∀ k, (Value.slice pt t.length ct).ownBlock = some k → k < w4.heap.size) := fun k hk => Nat.lt_of_lt_of_le (HTo.out k hk) hN.row.bel.size
          have HB4 := Lib.hid (HB3.out.trans (hN.row.bel.mono HB3.out.size))
          have HT4 := Lib.hid (I.below HT3.out hN.row.bel)
          have K4l := Lib.hid (K3l.out.below hN.row.bel)
          have K4al := Lib.hid (K3al.out.below hN.row.bel)
          have K4t := Lib.hid (R3t.out.below hN.row.bel)
          clear HT3 HB3 K3l K3al R3t 
          clear hN HTo
          go_wp2_with fail
          refine (refr13 _ l w4 R4x.out (by have := Ml.out.len; omega)).mono ?_
          rintro e w5 ⟨yv, rfl, hds2, hN⟩
          have R5y := Lib.hid hN.rd
          obtain ⟨py, cy, hv⟩ := R5y.out.shape
          subst hv
          have HTo5 : Hid (∀ k, (Value.slice pt t.length ct).ownBlock = some k → k < w5.heap.size) := fun k hk => Nat.lt_of_lt_of_le (HTo4.out k hk) hN.row.bel.size
          have HB5 := Lib.hid (HB4.out.trans (hN.row.bel.mono HB4.out.size))
          have HT5 := Lib.hid (I.below HT4.out hN.row.bel)
          have K5l := Lib.hid (K4l.out.below hN.row.bel)
          have K5al := Lib.hid (K4al.out.below hN.row.bel)
          have K5t := Lib.hid (K4t.out.below hN.row.bel)
          have K5x := Lib.hid (R4x.out.below hN.row.bel)
          clear HT4 HB4 K4l K4al K4t R4x 
          clear hN HTo4
          have HLe := Lib.hid (encRc_len (t := t) (by have := HTn.out; omega) Ml.out HSl.out)
          have hrf := ref_encode13o (.slice pt t.length ct) (.slice py l.length cy) t l w5 K5t.out (by have := HTn.out; omega) R5y.out (by have := Ml.out.len; omega) (fun r hr => ⟨by have := Ml.out.lab r hr; omega, by have := Ml.out.chs hr; omega⟩) (fun r hr n hn => (HSl.out r hr).2 n hn) (by have := HLe.out; omega)
          clear K5l
          clear K5x
          clear R5y
          by_cases h0 : recsErr t l = 0
          · have henc : encRcR t l = (0, encRc t l) := if_pos h0
            rw [henc] at hrf
            have HRf := Lib.hid hrf
            have HLt := Lib.hid (encRc_lt HTa.out (by have := HTn.out; omega) h0 (lens_of_small Ml.out.small))
            have HCut : Hid (∀ m, m < (encRc t l).length → decRc t ((encRc t l).take m) = (3, [])) := fun m hm => decRc_cut HTa.out (by have := HTn.out; omega) h0 (lens_of_small Ml.out.small) hm
            have HMore := Lib.hid (decRc_more HTa.out (by have := HTn.out; omega) h0 (lens_of_small Ml.out.small) cn)
            clear hrf henc h0
            generalize encRc t l = B at *
            go_wp2_with fail
            refine (HRf.out).mono ?_
            rintro e w6 ⟨⟨r, rfl, hr⟩, hB⟩
            have HOb : Hid (w6.ownsRow w5.heap.size 5 1 r B.length (u8s B)) := hr
            have R6b := Lib.hid (Rd.of_owns hr)
            obtain ⟨pb, cb, hv⟩ := R6b.out.shape
            subst hv
            have HbT : Hid (∀ k, (Value.slice pt t.length ct).ownBlock = some k → (Value.slice pb B.length cb).ownBlock ≠ some k) := fun k hk e => by have h5 := HTo5.out k hk; have h6 := (hr.lt k e).1; omega
            have HbW : Hid (∀ k, (Value.slice pb B.length cb).ownBlock = some k → w.heap.size ≤ k ∧ G ≤ k) := fun k e => by have h6 := (hr.lt k e).1; have h7 := HB5.out.size; have h8 := I.low HT5.out; omega
            have HB6 := Lib.hid (HB5.out.trans (hB.mono HB5.out.size))
            have HT6 := Lib.hid (I.below HT5.out hB)
            have K6al := Lib.hid (K5al.out.below hB)
            have K6t := Lib.hid (K5t.out.below hB)
            clear HT5 HB5 K5al K5t hB
            clear hr HRf
            have hBi : (B.length : Int) ≤ 100000000 := by have := HLe.out; omega
            by_cases h1000 : (1000 : Int) < (B.length : Int)
            · have := trivial
              go_wp2_with fail
              refine (HAL.out _ HT6.out).mono ?_
              rintro e wz ⟨rfl, hB⟩
              have HBz := Lib.hid (HB6.out.trans (hB.mono HB6.out.size))
              go_wp2_with fail
              go_ret
              exact ⟨rfl, HBz.out⟩
            · have HB1 : Hid (B.length ≤ 1000) := by show _ ≤ _; omega
              go_wp2_with fail
              refine (long10 _ al w6 K6al.out).mono ?_
              rintro e w7 ⟨he, hB⟩
              have HOb2 := Lib.hid ((Mods.of_below hB (fun _ => False)).owns HOb.out (fun _ _ e => e))
              have HB7 := Lib.hid (HB6.out.trans (hB.mono HB6.out.size))
              have HT7 := Lib.hid (I.below HT6.out hB)
              have K7al := Lib.hid (K6al.out.below hB)
              have K7t := Lib.hid (K6t.out.below hB)
              have K7b := Lib.hid (R6b.out.below hB)
              clear HT6 HB6 K6al K6t R6b hB
              clear HOb
              rcases he with rfl | ⟨rfl, h6⟩
              · have := trivial
                go_wp2_with fail
                refine (HAL.out _ HT7.out).mono ?_
                rintro e wz ⟨rfl, hB⟩
                have HBz := Lib.hid (HB7.out.trans (hB.mono HB7.out.size))
                go_wp2_with fail
                go_ret
                exact ⟨rfl, HBz.out⟩
              · have HTf : Hid (Fits t) := by show Fits _; rw [← HTe.out]; exact tabS_fits h6
                clear h6
                clear K7al
                go_wp2_with fail
                go_loopw [62] (fun kv wr => ∃ (k : Nat), k ≤ B.length ∧ kv = .int .i64 (k : Int) ∧ Hid (Below w7.heap.size w7 wr)) (fun kv _ => B.length - (intOf kv).toNat)
                case atStart => exact ⟨0, Nat.zero_le _, rfl, Below.refl _ _⟩
                case round =>
                  obtain ⟨k, hk, rfl, HBr⟩ := hrel
                  have hkm : (k : Int) ≤ 1000 := by have := HB1.out; omega
                  by_cases hlt : k < B.length
                  · have hlt' : (k : Int) < (B.length : Int) := by omega
                    have HRp : Hid (Rd wr 1 (.slice pb k cb) (B.take k).length (u8s (B.take k))) := by
                      have h5 := (K7b.out.below HBr.out).upto k hk
                      have h6 : (u8s B).take (k * 1) = u8s (B.take k) := by rw [Nat.mul_one]; simp [u8s, List.map_take]
                      rw [h6] at h5
                      show Rd _ _ _ _ _
                      rw [List.length_take, Nat.min_eq_left hk]
                      exact h5
                    have hcb : B.length ≤ cb := by
                      obtain ⟨_, _, e, _, h, _⟩ := K7b.out
                      simp only [Value.slice.injEq] at e
                      obtain ⟨_, _, rfl⟩ := e
                      exact h
                    have hde := I.decode _ _ t (B.take k) wr (I.below HT7.out HBr.out) (K7t.out.below HBr.out) (by have := HTn.out; omega) HTa.out HTf.out HRp.out (fun c hc => HLt.out c (List.mem_of_mem_take hc)) (by rw [List.length_take]; have := HB1.out; omega)
                    rw [HCut.out k hlt] at hde
                    have HDe := Lib.hid hde
                    have HCb := Lib.hid hcb
                    have HKl := Lib.hid hk
                    clear hde HRp hcb hlt
                    go_wp2_with (refine wpList_upto Try.elemU8 _ _ _ _ k HKl.out HCb.out rfl _ _ rfl rfl rfl ?_)
                    refine HDe.out.mono ?_
                    rintro en w9 ⟨⟨r, rfl, _, _⟩, hB⟩
                    have HB9 := Lib.hid (HBr.out.trans (hB.mono HBr.out.size))
                    clear hB HDe
                    go_wp2_with fail
                    go_round
                    case rel => exact ⟨k + 1, by have := HKl.out; omega, by go_num, HB9.out⟩
                    case measure => simp [intOf]; omega
                  · have hlt' : ¬ (k : Int) < (B.length : Int) := by omega
                    have HT9 := Lib.hid (I.below HT7.out HBr.out)
                    have HB9 : Hid (Below w.heap.size w wr) := HB7.out.trans (HBr.out.mono HB7.out.size)
                    have HOc := Lib.hid ((Mods.of_below HBr.out (fun _ => False)).owns HOb2.out (fun _ _ e => e))
                    have HTt := Lib.hid (K7t.out.below HBr.out)
                    have HOz := Lib.hid (owns_rebase HOc.out (base' := 0) (fun _ _ => Nat.zero_le _))
                    have HLz : Hid ((B.length + 1) * 1 ≤ 140737488355328 ∧ B.length + 1 ≤ maxLen) := by show _ ∧ _; have := HB1.out; unfold maxLen; omega
                    clear hlt hk
                    go_wp2_with (at_builtin; refine wpList_push Try.elemU8 _ #[.int .u8 (cn : Int)] _ _ _ HOz.out rfl (by simp [Value.oneCell']) HLz.out rfl _ _ rfl rfl rfl ?_)
                    intro v5 w5 k1 m1 f1
                    have HR5 : Hid (Rd w5 1 v5 (B ++ [cn]).length (u8s (B ++ [cn]))) := by
                      have h5 := Rd.of_owns k1
                      show Rd _ _ _ _ _
                      rw [List.length_append, show u8s (B ++ [cn]) = u8s B ++ [.int .u8 (cn : Int)] by simp [u8s]]
                      exact h5
                    have HM5 := Lib.hid m1
                    have HT5 := Lib.hid (I.keeps HT9.out m1 (fun k hk e => by have := (HbW.out k e).2; omega))
                    have HB5 : Hid (Below w.heap.size w w5) := HB9.out.trans (m1.below HB9.out.size (fun k hk e => by have := (HbW.out k e).1; omega))
                    have HTt5 := Lib.hid (HTt.out.mods m1 (fun k hk e => HbT.out k hk e))
                    obtain ⟨p5, c5, hv5⟩ : ∃ p c, v5 = .slice p (B.length + 1) c := (Rd.of_owns k1).shape
                    subst hv5
                    have hde := I.decode _ _ t (B ++ [cn]) w5 HT5.out HTt5.out (by have := HTn.out; omega) HTa.out HTf.out HR5.out (fun c hcc => by
                      rcases List.mem_append.1 hcc with e | e
                      · exact HLt.out c e
                      · simp only [List.mem_singleton] at e; rw [e]; exact HCn.out) (by rw [List.length_append]; have := HB1.out; simp only [List.length_singleton]; omega)
                    rw [HMore.out] at hde
                    have HDe := Lib.hid hde
                    clear hde k1 m1 f1 HOz HLz HOc
                    go_wp2_with fail
                    refine HDe.out.mono ?_
                    rintro en w6 ⟨⟨r, rfl, _, _⟩, hB⟩
                    have HB6 := Lib.hid (HB5.out.trans (hB.mono HB5.out.size))
                    have HT6 := Lib.hid (I.below HT5.out hB)
                    clear hB HDe
                    go_wp2_with fail
                    refine (HAL.out _ HT6.out).mono ?_
                    rintro en w7 ⟨rfl, hB⟩
                    have HB7 := Lib.hid (HB6.out.trans (hB.mono HB6.out.size))
                    go_wp2_with fail
                    go_ret
                    exact ⟨rfl, HB7.out⟩
          · have h23 : recsErr t l = 23 := (recsErr_in HIn.out).resolve_left h0
            have henc : encRcR t l = (23, []) := encRcR_bad (by decide) h23
            rw [henc] at hrf
            have HRf := Lib.hid hrf
            clear hrf henc h23 h0
            go_wp2_with fail
            refine (HRf.out).mono ?_
            rintro e w6 ⟨⟨r, rfl, hr⟩, hB⟩
            have R6b := Lib.hid (Rd.of_owns hr)
            obtain ⟨pb, cb, hv⟩ := R6b.out.shape
            subst hv
            have HB6 := Lib.hid (HB5.out.trans (hB.mono HB5.out.size))
            have HT6 := Lib.hid (I.below HT5.out hB)
            have K6al := Lib.hid (K5al.out.below hB)
            have K6t := Lib.hid (K5t.out.below hB)
            clear HT5 HB5 K5al K5t hB
            clear hr HRf
            go_wp2_with fail
            refine (HAL.out _ HT6.out).mono ?_
            rintro e wz ⟨rfl, hB⟩
            have HBz := Lib.hid (HB6.out.trans (hB.mono HB6.out.size))
            go_wp2_with fail
            go_ret
            exact ⟨rfl, HBz.out⟩
end Go.Proofs.Ytmnagmbokajfpaa.recordsPrefixes
