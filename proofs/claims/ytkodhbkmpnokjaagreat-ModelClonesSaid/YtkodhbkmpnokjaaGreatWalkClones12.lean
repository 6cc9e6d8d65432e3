/- Layer 12: ModelClones, walked over the interface. -/
import Derived.Test.YtkodhbkmpnokjaaGreatMrg13
import Derived.Test.YtkodhbkmpnokjaaGreatMrg8
set_option linter.unusedVariables false
namespace Go.Proofs.YtkodhbkmpnokjaaGreat.modelClones
open Go Go.RowKit
variable {G : Nat} {T : World → Prop}

set_option maxRecDepth 20000 in
set_option maxHeartbeats 8000000 in
theorem walk (I : MoIf G T) (hal : ∀ w, T w → Calls Tryz.prog 10 #[] w fun e w' => e = .returned (.bool true) ∧ Below w.heap.size w w')
    (w : World) (hT : T w) (bv : Value) (b : List Ser) (okb : Sized b) (hb : RdB w bv b) :
    Calls Tryz.prog 6 #[bv] w fun e w' => e = .returned (.bool true) ∧ Below w.heap.size w w' := by
  have HT := Lib.hid hT; have HAL := Lib.hid hal
  have HLb := Lib.hid hb; have HSb := Lib.hid okb
  obtain ⟨pb, cb, hv⟩ := hb.shape
  subst hv
  clear hT hal hb okb
  go_enter Tryz.func6, Tryz.ntmps6
  go_wp2_with fail
  refine (large12 _ b w HLb.out HSb.out).mono ?_
  rintro e w1 ⟨he, hB⟩
  have HB1 := Lib.hid (hB)
  have HT1 := Lib.hid (I.below HT.out hB)
  have K1b := Lib.hid (HLb.out.below hB)
  clear HT HLb hB
  rcases he with rfl | ⟨rfl, hsm, hlg⟩
  · have := trivial
    go_wp2_with fail
    refine (HAL.out _ HT1.out).mono ?_
    rintro e wz ⟨rfl, hB⟩
    have HBz := Lib.hid (HB1.out.trans (hB.mono HB1.out.size))
    go_wp2_with fail
    go_ret
    exact ⟨rfl, HBz.out⟩
  · have Mb := Lib.hid hsm
    have HLg := Lib.hid hlg
    clear hsm hlg
    have hbn : (b.length : Int) ≤ 300 := by have := Mb.out.len; omega
    go_wp2_with fail
    refine (I.clone _ b w1 HT1.out K1b.out HSb.out Mb.out).mono ?_
    rintro e w2 ⟨rc, rfl, hC⟩
    have HC2 := Lib.hid hC
    obtain ⟨hs, hcl, hap⟩ := hC.clAt HLg.out
    have HA := Lib.hid hap
    obtain ⟨prc, crc, hv⟩ := hC.rd.shape
    subst hv
    have HCl2 := Lib.hid hcl
    have K2c := Lib.hid hC.rd
    have HB12 := Lib.hid hC.bel
    have HT2 := Lib.hid (I.below HT1.out hC.bel)
    have K2b := Lib.hid (K1b.out.below hC.bel)
    clear hC hcl hap
    go_wp2_with fail
    refine (I.clone _ b w2 HT2.out K2b.out HSb.out Mb.out).mono ?_
    rintro e w3 ⟨rd, rfl, hC⟩
    have HD3 := Lib.hid hC
    obtain ⟨prd, crd, hv⟩ := hC.rd.shape
    subst hv
    have HB23 := Lib.hid hC.bel
    have HT3 := Lib.hid (I.below HT2.out hC.bel)
    have K3b := Lib.hid (K2b.out.below hC.bel)
    have K3c := Lib.hid (K2c.out.below hC.bel)
    have HCl3 := Lib.hid (HCl2.out.below hC.bel)
    clear hC HCl2 HT2 K2b K2c HC2
    go_wp2_with fail
    refine (ref_equal12 _ _ b b w3 K3b.out K3c.out Mb.out Mb.out).mono ?_
    rintro e w4 ⟨rfl, hB⟩
    have HB34 := Lib.hid hB
    have HT4 := Lib.hid (I.below HT3.out hB)
    have K4b := Lib.hid (K3b.out.below hB)
    have HCl4 := Lib.hid (HCl3.out.below hB)
    clear hB HT3 K3b K3c HCl3
    go_wp2_with fail
    refine (I.norm _ b w4 HT4.out K4b.out HSb.out Mb.out).mono ?_
    rintro e w5 ⟨r5, rfl, _, hB⟩
    have HB45 := Lib.hid hB
    have HT5 := Lib.hid (I.below HT4.out hB)
    have HCl5 := Lib.hid (HCl4.out.below hB)
    clear hB HT4 HCl4 K4b
    have HZ : Hid (w.heap.size ≤ w1.heap.size ∧ w1.heap.size ≤ w2.heap.size ∧ w2.heap.size ≤ w3.heap.size ∧ w3.heap.size ≤ w4.heap.size ∧ w4.heap.size ≤ w5.heap.size) := ⟨HB1.out.size, HB12.out.size, HB23.out.size, HB34.out.size, HB45.out.size⟩
    have HTw : Hid (∀ wr, Mods (fun j => w1.heap.size ≤ j ∧ j < w2.heap.size) w5 wr → T wr) := fun wr hm => I.keeps HT5.out hm (fun k hk e => by have := I.low HT1.out; omega)
    generalize hBv : w1.heap.size = Bl at *
    generalize hCv : w2.heap.size = Ch at *
    go_wp2_with fail
    go_loopw [24] (fun iv wr => ∃ (i : Nat), i ≤ b.length ∧ iv = .int .i64 (i : Int) ∧ Hid (ClAt Bl Ch (fun i' _ => i ≤ i') wr hs (.slice prc b.length crc) b) ∧ Hid (Mods (fun j => Bl ≤ j ∧ j < Ch) w5 wr)) (fun iv _ => b.length - (intOf iv).toNat)
    case atStart => exact ⟨0, Nat.zero_le _, rfl, HCl5.out.mono (fun _ _ _ => trivial), Mods.refl _ _⟩
    case round =>
      obtain ⟨i, hi, rfl, HCl, HM⟩ := hrel
      have him : (i : Int) ≤ 300 := by omega
      by_cases hlt : i < b.length
      · have hlt' : (i : Int) < (b.length : Int) := by omega
        obtain ⟨s, hsb⟩ : ∃ s, b[i]? = some s := ⟨_, List.getElem?_eq_getElem hlt⟩
        have hsm := List.mem_of_getElem? hsb
        have hn1 : (s.1.length : Int) ≤ 200 := by have := Mb.out.lab s hsm; omega
        have hn2 : (s.2.length : Int) ≤ 3000 := by have := Mb.out.mem hsm; omega
        obtain ⟨g, h1, h2, e, hh, d0, d1, ⟨p1, c1, e1⟩, ⟨p2, c2, e2⟩⟩ := HCl.out.head hsb
        subst e
        have HH := Lib.hid hh
        have HSi := Lib.hid hsb
        subst e1
        subst e2
        clear hsm hsb hh
        go_wp2_with fail
        clear d0 d1
        have HN1 : Hid (s.1.length = s.1.length) := rfl
        go_loopw [33] (fun kv wr2 => ∃ (k : Nat), k ≤ s.1.length ∧ kv = .int .i64 (k : Int) ∧ Hid (ClAt Bl Ch (fun i' k' => i < i' ∨ i' = i ∧ k ≤ k') wr2 hs (.slice (some ⟨g, 0, none⟩) b.length crc) b) ∧ Hid (Mods (fun j => Bl ≤ j ∧ j < Ch) w5 wr2)) (fun kv _ => s.1.length - (intOf kv).toNat)
        case atStart => exact ⟨0, Nat.zero_le _, rfl, HCl.out.mono (fun i' k' h => by omega), HM.out⟩
        case round =>
          obtain ⟨k, hk, rfl, HCl2, HM2⟩ := hrel
          have hkm : (k : Int) ≤ 200 := by omega
          by_cases hkl : k < s.1.length
          · have hkl' : (k : Int) < (s.1.length : Int) := by omega
            obtain ⟨g1, cc1, v, ev, x1, f1, hvs, hst⟩ := HCl2.out.labStep HA.out HH.out HSi.out hkl (Or.inr ⟨rfl, Nat.le_refl _⟩)
            have hvi : (v.size : Int) ≤ 200000 := by omega
            have hd := HCl2.out.head HSi.out
            obtain ⟨g', h1', h2', e', hh', d0, d1, _, _⟩ := hd
            rw [HH.out] at hh'
            simp only [Option.some.injEq, Prod.mk.injEq] at hh' e' ev
            obtain ⟨rfl, rfl⟩ := hh'
            obtain ⟨rfl, _⟩ := e'
            have HSt := Lib.hid hst
            simp only [Value.slice.injEq] at ev
            obtain ⟨rfl, _, rfl⟩ := ev
            clear hst
            go_wp2_with fail
            go_round
            case rel => exact ⟨k + 1, by omega, by go_num, (HSt.out _).1.mono (fun i' k' h => by omega), HM2.out.trans (HSt.out _).2 (fun _ _ e => e)⟩
            case measure => simp [intOf]; omega
          · have hkl' : ¬ (k : Int) < (s.1.length : Int) := by omega
            obtain ⟨g', h1', h2', e', hh', d0, d1, _, _⟩ := HCl2.out.head HSi.out
            rw [HH.out] at hh'
            simp only [Option.some.injEq, Prod.mk.injEq, Addr.mk.injEq] at hh' e'
            obtain ⟨rfl, rfl⟩ := hh'
            obtain ⟨rfl, _⟩ := e'
            go_wp2_with fail
            clear d0 d1
            clear hkl hkl' hkm hk
            generalize (k : Int) = k0 at *
            go_loopw [55] (fun kv wr2 => ∃ (k : Nat), k ≤ s.2.length ∧ kv = .int .i64 (k : Int) ∧ Hid (ClAt Bl Ch (fun i' _ => i + 1 ≤ i') wr2 hs (.slice (some ⟨g, 0, none⟩) b.length crc) b) ∧ Hid (Mods (fun j => Bl ≤ j ∧ j < Ch) w5 wr2)) (fun kv _ => s.2.length - (intOf kv).toNat)
            case atStart => exact ⟨0, Nat.zero_le _, rfl, HCl2.out.mono (fun i' k' h => by omega), HM2.out⟩
            case round =>
              obtain ⟨k, hk, rfl, HCl3, HM3⟩ := hrel
              have hkm : (k : Int) ≤ 3000 := by omega
              by_cases hkl : k < s.2.length
              · have hkl' : (k : Int) < (s.2.length : Int) := by omega
                obtain ⟨g1, cc1, t, ev, x1, f1, hst⟩ := HCl3.out.samStep HA.out HH.out HSi.out hkl
                obtain ⟨g', h1', h2', e', hh', d0, d1, _, _⟩ := HCl3.out.head HSi.out
                rw [HH.out] at hh'
                simp only [Option.some.injEq, Prod.mk.injEq, Addr.mk.injEq] at hh' e' ev
                obtain ⟨rfl, rfl⟩ := hh'
                obtain ⟨rfl, _⟩ := e'
                have HSt := Lib.hid hst
                simp only [Value.slice.injEq] at ev
                obtain ⟨rfl, _, rfl⟩ := ev
                clear hst
                go_wp2_with fail
                go_round
                case rel => exact ⟨k + 1, by omega, by go_num, (HSt.out _).1, HM3.out.trans (HSt.out _).2 (fun _ _ e => e)⟩
                case measure => simp [intOf]; omega
              · have hkl' : ¬ (k : Int) < (s.2.length : Int) := by omega
                go_wp2_with fail
                go_round
                case rel => exact ⟨i + 1, by omega, by go_num, HCl3.out, HM3.out⟩
                case measure => simp [intOf]; omega
      · have hlt' : ¬ (i : Int) < (b.length : Int) := by omega
        have HT6 := Lib.hid (HTw.out wr HM.out)
        have hz := HZ.out
        have HB6 : Hid (Below Bl w5 wr) := HM.out.below (by omega) (fun k hk e => by omega)
        have HD6 := Lib.hid (HD3.out.kept ((Mods.of_below (HB34.out.trans (HB45.out.mono HB34.out.size)) (fun j => Bl ≤ j ∧ j < Ch)).trans HM.out (fun _ _ e => e)) (fun k hk => by rw [hCv]; exact hk.2))
        have HB16 : Hid (Below Bl w1 wr) := ((HB12.out.trans (HB23.out.mono (by omega))).trans ((HB34.out.trans (HB45.out.mono HB34.out.size)).mono (by omega))).trans HB6.out
        have K6b := Lib.hid (K1b.out.below (by rw [hBv]; exact HB16.out))
        have HBw6 : Hid (Below w.heap.size w wr) := HB1.out.trans (HB16.out.mono (by omega))
        clear hz
        go_wp2_with fail
        refine (HAL.out _ HT6.out).mono ?_
        rintro e w7 ⟨rfl, hB⟩
        have HB7 := Lib.hid (HBw6.out.trans (hB.mono HBw6.out.size))
        have K7b := Lib.hid (K6b.out.below hB)
        have HD7 := Lib.hid (HD6.out.below hB)
        clear hB K6b HD6 HBw6
        go_wp2_with fail
        refine (ref_equal12 _ _ b b w7 K7b.out HD7.out Mb.out Mb.out).mono ?_
        rintro e w8 ⟨rfl, hB⟩
        have HB8 := Lib.hid (HB7.out.trans (hB.mono HB7.out.size))
        clear hB
        go_wp2_with fail
        go_ret
        exact ⟨rfl, HB8.out⟩
end Go.Proofs.YtkodhbkmpnokjaaGreat.modelClones
