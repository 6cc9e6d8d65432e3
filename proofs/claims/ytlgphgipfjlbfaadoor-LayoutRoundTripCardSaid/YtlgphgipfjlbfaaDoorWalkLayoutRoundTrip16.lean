/- Layer 16: LayoutRoundTrip, walked over the interface. -/
import Derived.Test.YtlgphgipfjlbfaaDoorMrg4
import Derived.Test.YtlgphgipfjlbfaaDoorMrg5
import Derived.Test.YtlgphgipfjlbfaaDoorMrg7
import Derived.Test.YtlgphgipfjlbfaaDoorMrg13
import Derived.Test.YtlgphgipfjlbfaaDoorMrg8
import Derived.Test.YtlgphgipfjlbfaaDoorMrg11
set_option linter.unusedVariables false
set_option linter.unusedSimpArgs false
namespace Go.Proofs.YtlgphgipfjlbfaaDoor.layoutRoundTrip
open Go Go.RowKit
variable {G : Nat} {T : World → Prop}

set_option maxRecDepth 20000 in
set_option maxHeartbeats 16000000 in
theorem walk (I : LyIf G T) (hal : ∀ w, T w → Calls Tryd.prog 10 #[] w fun e w' => e = .returned (.bool true) ∧ Below w.heap.size w w')
    (w : World) (hT : T w) (vs : List Value) (S : List (List Nat)) (h4 : S.length = 4) (ok : okS4 S) (hM : ∀ d ∈ S, d.length ≤ 140737488351232) (hS : RdS w vs S) :
    Calls Tryd.prog 5 #[.agg vs.toArray] w fun e w' => e = .returned (.bool true) ∧ Below w.heap.size w w' := by
  have HT := Lib.hid hT; have HAL := Lib.hid hal; have H4 := Lib.hid h4; have HO := Lib.hid ok; have HM := Lib.hid hM; have HS := Lib.hid hS
  have HV : Hid (vs.length = 4) := hS.len.trans h4
  clear hT hal h4 ok hM hS
  go_enter Tryd.func5, Tryd.ntmps5
  go_wp2_with (refine wpList_boxA rfl _ _ rfl vs rfl ?_)
  intro w0 hK hB hs
  have HB0 := Lib.hid hB; have HT0 := Lib.hid (I.below HT.out hB); have HS0 := Lib.hid (HS.out.below hB); have HK0 := Lib.hid hK
  obtain ⟨g, hg⟩ : ∃ g, w.heap.size = g := ⟨_, rfl⟩
  have HGw := Lib.hid hg
  rw [hg] at HK0 ⊢
  clear hK hB hs HT HS hg
  go_wp2_with (refine wpList_loadA arrB rfl _ rfl g rfl _ HK0.out HV.out ?_)
  refine (large16 vs S w0 HS0.out H4.out).mono ?_
  rintro e w1 ⟨he, hB⟩
  have HB1 := Lib.hid (HB0.out.trans (hB.mono HB0.out.size)); have HT1 := Lib.hid (I.below HT0.out hB); have HS1 := Lib.hid (HS0.out.below hB); have HK1 := Lib.hid (HK0.out.of_same (hB.block _ HK0.out.lt))
  clear hB HB0 HT0 HS0 HK0
  rcases he with rfl | ⟨rfl, h5⟩
  · go_wp2_with fail
    refine (HAL.out _ HT1.out).mono ?_
    rintro e wz ⟨rfl, hB⟩
    have HBz := Lib.hid (HB1.out.trans (hB.mono HB1.out.size))
    clear hB
    go_wp2_with fail
    go_ret
    exact ⟨rfl, HBz.out⟩
  · have HF := Lib.hid (asm_fits H4.out h5 HM.out)
    have HLt := Lib.hid (asmL_lt H4.out HO.out)
    have HLy := Lib.hid (lay_back H4.out HO.out (by have := HF.out; omega))
    have HAs := Lib.hid (fun (cs : List Value) w h1 h2 => I.assemble cs S w h1 h2 H4.out HO.out HF.out)
    obtain ⟨B, hB⟩ : ∃ B, asmL S = B := ⟨_, rfl⟩
    rw [hB] at HF HLt HLy HAs
    clear h5 hB
    go_wp2_with (refine wpList_allocA arrB rfl rfl ?_)
    intro w2 hK hB hs
    have HB2 : Hid (Below w1.heap.size w1 w2) := hB
    have HC2 : Hid (Blk w2 w1.heap.size (List.replicate 4 (.slice none 0 0))) := hK
    have HZ2 : Hid (w2.heap.size = w1.heap.size + 1) := hs
    obtain ⟨gc, hgc⟩ : ∃ gc, w1.heap.size = gc := ⟨_, rfl⟩
    rw [hgc] at HB2 HC2 HZ2 ⊢
    have HGc : Hid (g < gc ∧ w1.heap.size = gc) := ⟨by have := HK1.out.lt; omega, hgc⟩
    have HK2 : Hid (Blk w2 g vs) := HK1.out.of_same (hB.block _ HK1.out.lt)
    clear hK hB hs hgc
    go_wp2_with (refine wpList_loadA arrB rfl _ rfl g rfl _ HK2.out HV.out ?_)
    go_wp2_with fail
    go_loopw [17] (fun iv wr => ∃ (i : Nat) (cs : List Value), i ≤ 4 ∧ iv = .int .i64 (i : Int) ∧ Hid (ClS wr (gc + 1) cs (S.take i ++ List.replicate (4 - i) [])) ∧ Hid (Blk wr gc cs) ∧ Hid (Below gc w1 wr)) (fun iv _ => 4 - (intOf iv).toNat)
    case atStart => exact ⟨0, _, Nat.zero_le _, rfl, ClS.none w2 _, HC2.out, HB2.out⟩
    case round =>
      obtain ⟨i, cs, hi, rfl, HC, HKc, HBr⟩ := hrel
      clear HB2 HC2 HZ2 HK2
      have him : (i : Int) ≤ 4 := by omega
      have HBw : Hid (Below w1.heap.size w1 wr) := by show Below _ _ _; rw [HGc.out.2]; exact HBr.out
      by_cases hlt : i < 4
      · have hlt' : (i : Int) < 4 := by omega
        obtain ⟨d, hd⟩ : ∃ d, S[i]? = some d := ⟨_, List.getElem?_eq_getElem (by have := H4.out; omega)⟩
        obtain ⟨p, c, hv, hr⟩ := HS1.out.get hd
        have HVi := Lib.hid hv
        have HRd := Lib.hid (hr.below HBw.out)
        have HDl : Hid (d.length ≤ 140737488351232) := HM.out d (List.mem_of_getElem? hd)
        have HSt := Lib.hid (take_set H4.out hd)
        clear hd hv hr
        go_wp2_with (refine wpList_indexA arrB rfl _ _ rfl vs rfl i rfl hlt _ HVi.out ?_)
        refine (bytes_clone _ d.length (u8s d) wr HRd.out (u8s_oneCell _) (by have := HDl.out; omega)).mono ?_
        rintro en w3 ⟨r, rfl, hM⟩
        have HC3 := Lib.hid (HC.out.set (i := i) hM (by have := HKc.out.lt; omega))
        rw [HSt.out] at HC3
        have HK3 := Lib.hid (HKc.out.of_same (hM.2.block _ HKc.out.lt))
        have HB3 : Hid (Below gc w1 w3) := HBr.out.trans (hM.2.mono (by have := HKc.out.lt; omega))
        have hcl : cs.length = 4 := by rw [HC.out.len, List.length_append, List.length_take, List.length_replicate, H4.out]; omega
        obtain ⟨v0, hv0⟩ : ∃ v0, cs[i]? = some v0 := ⟨_, List.getElem?_eq_getElem (by omega)⟩
        obtain ⟨pr, cr, hv⟩ := (Rd.of_owns hM.1).shape
        subst hv
        have sc : w3.cell? ⟨gc, i, none⟩ = some v0 := by rw [HK3.out.cell]; exact hv0
        have sf : w3.frozen? ⟨gc, i, none⟩ = false := HK3.out.free i
        have hm4 : Mods (fun k => k = gc) w3 (w3.setCell ⟨gc, i, none⟩ (.slice pr d.length cr)) := Mods.set _ _ _ _ (fun _ => rfl)
        have HK4 : Hid (Blk (w3.setCell ⟨gc, i, none⟩ (.slice pr d.length cr)) gc (cs.set i (.slice pr d.length cr))) := HK3.out.set i _
        have HC4 := Lib.hid (HC3.out.mods hm4 (fun v hv k hk e => by have := (HC3.out.blocks hv hk).1; omega))
        have HB4 : Hid (Below gc w1 (w3.setCell ⟨gc, i, none⟩ (.slice pr d.length cr))) := HB3.out.trans (hm4.below (by have := HK3.out.lt; omega) (fun k hk e => by omega))
        clear hM hm4 hcl hv0 HC3 HK3 HB3 HC HKc HBr HBw HRd HVi HSt
        go_wp2_with fail
        go_round
        case rel => exact ⟨i + 1, _, by omega, by go_num, HC4.out, HK4.out, HB4.out⟩
        case measure => simp [intOf]; omega
      · have hlt' : ¬ (i : Int) < 4 := by omega
        have hi4 : i = 4 := by omega
        subst hi4
        have HC5 : Hid (ClS wr (gc + 1) cs S) := by
          have h := HC.out
          rw [show 4 - 4 = 0 from rfl, List.replicate_zero, List.append_nil, List.take_of_length_le (by have := H4.out; omega)] at h
          exact h
        have HCl : Hid (cs.length = 4) := HC5.out.len.trans H4.out
        have HT5 := Lib.hid (I.below HT1.out HBw.out)
        clear HC HBw
        go_wp2_with (refine wpList_loadA arrB rfl _ rfl gc rfl _ HKc.out HCl.out ?_)
        refine (HAs.out cs wr HT5.out HC5.out.rd).mono ?_
        rintro en w6 ⟨r, rfl, hr, hfr, hB⟩
        have HR6 := Lib.hid hr
        have HFr := Lib.hid hfr
        obtain ⟨pb, cb, hv⟩ := hr.shape
        subst hv
        have HC6 := Lib.hid (HC5.out.below hB)
        have HK6 := Lib.hid (HKc.out.of_same (hB.block _ HKc.out.lt))
        have HB6 : Hid (Below gc w1 w6) := HBr.out.trans (hB.mono (by have := HKc.out.lt; omega))
        have HAp : Hid (∀ v ∈ cs, ∀ k, v.ownBlock = some k → (Value.slice pb B.length cb).ownBlock ≠ some k) := fun v hv k hk e => by
          have a := (HC5.out.blocks hv hk).2
          have b := HFr.out k e
          omega
        clear hr hfr hB HC5 HKc HBr HT5 HAs HFr
        go_wp2_with (refine wpList_loadA arrB rfl _ rfl gc rfl _ HK6.out HCl.out ?_)
        go_wp2_with fail
        clear hi him hlt hlt'
        go_loopw [29] (fun jv wq => ∃ (j : Nat) (L : List (List Nat)), j ≤ 4 ∧ jv = .int .i64 (j : Int) ∧ Hid (L.length = 4) ∧ Hid (ClS wq (gc + 1) cs L) ∧ Hid (Rd wq 1 (.slice pb B.length cb) B.length (u8s B)) ∧ Hid (Below gc w1 wq)) (fun jv _ => 4 - (intOf jv).toNat)
        case atStart => exact ⟨0, S, Nat.zero_le _, rfl, H4.out, HC6.out, HR6.out, HB6.out⟩
        case round =>
          obtain ⟨j, L, hj, rfl, HL4, HC7, HR7, HB7⟩ := hrel
          obtain ⟨wq, rfl⟩ : ∃ wq, wq = wr := ⟨_, rfl⟩
          clear HC6 HR6 HB6 HK6
          have hjm : (j : Int) ≤ 4 := by omega
          by_cases hlt : j < 4
          · have hlt' : (j : Int) < 4 := by omega
            obtain ⟨d, hd⟩ : ∃ d, L[j]? = some d := ⟨_, List.getElem?_eq_getElem (by have := HL4.out; omega)⟩
            obtain ⟨px, cx, hv, ho⟩ := HC7.out.get hd
            have HVj := Lib.hid hv
            have HOx := Lib.hid ho
            clear hd hv ho
            go_wp2_with (refine wpList_indexA arrB rfl _ _ rfl cs rfl j rfl hlt _ HVj.out ?_)
            go_loopw [34] (fun iv wk => ∃ (i : Nat) (l : List Nat), i ≤ d.length ∧ iv = .int .i64 (i : Int) ∧ Hid (l.length = d.length) ∧ Hid (wk.ownsRow (gc + 1) 5 1 (.slice px d.length cx) d.length (u8s l)) ∧ Hid (Mods (fun k => (Value.slice px d.length cx).ownBlock = some k) wq wk)) (fun iv _ => d.length - (intOf iv).toNat)
            case atStart => exact ⟨0, d, Nat.zero_le _, rfl, rfl, HOx.out, Mods.refl _ _⟩
            case round =>
              obtain ⟨i, l, hi, rfl, HLl, HOl, HMl⟩ := hrel
              obtain ⟨wk, rfl⟩ : ∃ wk, wk = wr := ⟨_, rfl⟩
              by_cases hil : i < d.length
              · have hil' : (i : Int) < (d.length : Int) := by omega
                have hmx : (d.length : Int) ≤ 9223372036854775807 := by have := (Rd.of_owns HOl.out).le; unfold maxLen at this; omega
                obtain ⟨gv, rfl⟩ : ∃ gv, px = some ⟨gv, 0, none⟩ := by
                  rcases owns_cases HOl.out with ⟨_, h0, _⟩ | ⟨g', cap, hv, _⟩
                  · omega
                  · cases hv; exact ⟨_, rfl⟩
                obtain ⟨x, hx⟩ : ∃ x, l[i]? = some x := ⟨_, List.getElem?_eq_getElem (by have := HLl.out; omega)⟩
                have hcell : wk.cell? ⟨gv, i, none⟩ = some (.int .u8 (x : Int)) := by
                  rw [HOl.out.cellAt i (by omega)]; simp [u8s, hx]
                have hfro : wk.frozen? ⟨gv, i, none⟩ = false := HOl.out.frozenAt _
                have HO2 : Hid ((wk.setCell ⟨gv, i, none⟩ (.int .u8 (((x + 1) % 256 : Nat) : Int))).ownsRow (gc + 1) 5 1 (.slice (some ⟨gv, 0, none⟩) d.length cx) d.length (u8s (l.set i ((x + 1) % 256)))) := by
                  show World.ownsRow _ _ _ _ _ _ _
                  rw [← u8s_set]
                  exact (HOl.out.stored i _).1
                have HM2 : Hid (Mods (fun k => (Value.slice (some ⟨gv, 0, none⟩) d.length cx).ownBlock = some k) wq (wk.setCell ⟨gv, i, none⟩ (.int .u8 (((x + 1) % 256 : Nat) : Int)))) := HMl.out.trans (Mods.set (fun k => k = gv) wk ⟨gv, i, none⟩ _ (fun _ => rfl)) (fun j _ e => congrArg some e.symm)
                have HL2 : Hid ((l.set i ((x + 1) % 256)).length = d.length) := by show _ = _; rw [List.length_set]; exact HLl.out
                clear hx HOl HMl HLl
                go_wp2_with fail
                rw [show ((x : Int) + 1) % 256 = (((x + 1) % 256 : Nat) : Int) by omega]
                go_round
                case rel => exact ⟨i + 1, _, by omega, by go_num, HL2.out, HO2.out, HM2.out⟩
                case measure => simp [intOf]; omega
              · have hil' : ¬ (i : Int) < (d.length : Int) := by omega
                have HC8 := Lib.hid (HC7.out.change HVj.out HMl.out (d := l) (by rw [HLl.out]; exact HOl.out))
                have HR8 := Lib.hid (HR7.out.mods HMl.out (fun k hk e => HAp.out _ (List.mem_of_getElem? HVj.out) k e hk))
                have HB8 : Hid (Below gc w1 wk) := HB7.out.trans (HMl.out.below (by have := HB7.out.size; have := HGc.out.2; omega) (fun k hk e => by have := (HC7.out.blocks (List.mem_of_getElem? HVj.out) e).1; omega))
                have HL8 : Hid ((L.set j l).length = 4) := by show _ = _; rw [List.length_set]; exact HL4.out
                clear HC7 HR7 HB7 HOx HOl HMl HLl HL4
                go_wp2_with fail
                go_round
                case rel => exact ⟨j + 1, _, by omega, by go_num, HL8.out, HC8.out, HR8.out, HB8.out⟩
                case measure => simp [intOf]; omega
          · have hlt' : ¬ (j : Int) < 4 := by omega
            have hbw : Below w1.heap.size w1 wq := by rw [HGc.out.2]; exact HB7.out
            have HT9 := Lib.hid (I.below HT1.out hbw)
            have HS9 := Lib.hid (HS1.out.below hbw)
            have HK9 := Lib.hid (HK1.out.of_same (hbw.block _ HK1.out.lt))
            have HB9 : Hid (Below w.heap.size w wq) := HB1.out.trans (hbw.mono HB1.out.size)
            clear hbw HB7 HC7 HL4
            go_wp2_with fail
            refine (I.parse _ B wq HT9.out HR7.out HLt.out HF.out).mono ?_
            rintro en w10 ⟨v10, rfl, hS, hB⟩
            rw [HLy.out] at hS ⊢
            have HR10 : Hid (RdS w10 v10 S) := hS
            have HV10 : Hid (v10.length = 4) := HR10.out.len.trans H4.out
            have HT10 := Lib.hid (I.below HT9.out hB); have HS10 := Lib.hid (HS9.out.below hB); have HK10 := Lib.hid (HK9.out.of_same (hB.block _ HK9.out.lt)); have HB10 := Lib.hid (HB9.out.trans (hB.mono HB9.out.size))
            clear hS hB HT9 HS9 HK9 HB9 HR7
            go_wp2_with (refine wpList_varA arrS rfl rfl rfl _ _ rfl v10 rfl rfl HV10.out HR10.out.one ?_; intro w11 hk hb hs)
            have HT11 := Lib.hid (I.below HT10.out hb); have HS11 := Lib.hid (HS10.out.below hb); have HR11 := Lib.hid (HR10.out.below hb); have HK11 := Lib.hid (HK10.out.of_same (hb.block _ HK10.out.lt)); have HB11 : Hid (Below w.heap.size w w11) := HB10.out.trans (hb.mono HB10.out.size)
            have HN11 := Lib.hid hk
            obtain ⟨gt, hg⟩ : ∃ gt, w10.heap.size = gt := ⟨_, rfl⟩
            rw [hg] at HN11 ⊢
            clear hk hb hs hg HT10 HS10 HR10 HK10 HB10
            try go_wp2_with fail
            refine (HAL.out _ HT11.out).mono ?_
            rintro en w12 ⟨rfl, hB⟩
            have HS12 := Lib.hid (HS11.out.below hB); have HR12 := Lib.hid (HR11.out.below hB); have HK12 := Lib.hid (HK11.out.of_same (hB.block _ HK11.out.lt)); have HN12 := Lib.hid (HN11.out.of_same (hB.block _ HN11.out.lt)); have HB12 := Lib.hid (HB11.out.trans (hB.mono HB11.out.size))
            clear hB HT11 HS11 HR11 HK11 HN11 HB11
            go_wp2_with (first
              | (refine wpList_loadG arrB rfl _ rfl g rfl _ HK12.out HV.out ?_)
              | (refine wpList_loadG arrS rfl _ rfl gt rfl _ HN12.out HV10.out ?_))
            refine (ref_same16 vs v10 S S w12 HS12.out HR12.out H4.out H4.out (fun d hd => (HO.out d hd).1) (fun d hd => (HO.out d hd).1)).mono ?_
            rw [decide_eq_true (rfl : S = S)]
            rintro en wz ⟨rfl, hB⟩
            have HBz := Lib.hid (HB12.out.trans (hB.mono HB12.out.size))
            clear hB HS12 HR12 HK12 HN12 HB12
            go_wp2_with fail
            go_ret
            exact ⟨rfl, HBz.out⟩
end Go.Proofs.YtlgphgipfjlbfaaDoor.layoutRoundTrip
