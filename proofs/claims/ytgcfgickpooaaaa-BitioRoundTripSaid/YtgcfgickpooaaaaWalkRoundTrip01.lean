/- Layer 1: BitioRoundTrip, walked. -/
import Derived.Test.YtgcfgickpooaaaaWrite01
import Derived.Test.YtgcfgickpooaaaaBitsB
namespace Go.Proofs.Ytgcfgickpooaaaa.bitioRoundTrip
open Go Go.RowKit
theorem flatMap_field_ne {l : List (Nat × Int)} (h : l ≠ []) : l.flatMap fieldCells ≠ [] := by
  cases l with
  | nil => exact absurd rfl h
  | cons a l => simp [fieldCells]

theorem fields_parts (l : List (Nat × Int)) (j : Nat) (hj : j < l.length) : fieldsBits l = fieldsBits (l.take j) ++ (if fieldGood l[j] then fieldBits l[j].1 l[j].2.toNat else []) ++ fieldsBits (l.drop (j + 1)) := by
  rw [← fieldsBits_take_succ l j hj, ← fieldsBits_append, List.take_append_drop]

set_option maxHeartbeats 2000000 in
theorem walk (w : World) (v : Value) (l : List (Nat × Int)) (ok : ∀ a ∈ l, fieldOk a) (hl : Rd w 2 v l.length (l.flatMap fieldCells)) (hz : l.length * 16 ≤ 140737488351232) :
    Calls Try.prog 5 #[v] w fun e w' => e = .returned (.bool true) ∧ Below w.heap.size w w' := by
  have HL := Lib.hid hl
  have HK := Lib.hid ok
  obtain ⟨q, c, hv⟩ := hl.shape
  subst hv
  clear hl ok
  by_cases hlt : 300 < l.length
  · have hlt' : (300 : Int) < (l.length : Int) := by omega
    go_enter Try.func5, Try.ntmps5
    go_wp2_with fail
    refine (alive_any _).mono ?_
    rintro e w1 ⟨rfl, hB⟩
    go_wp2_with fail
    go_ret
    exact ⟨rfl, hB⟩
  · have hlt' : ¬ (300 : Int) < (l.length : Int) := by omega
    have hfl := fieldsBits_length l
    go_enter Try.func5, Try.ntmps5
    go_wp2_with fail
    refine (new_writer _).mono ?_
    rintro e w1 ⟨rfl, hW1, hB1⟩
    have hR := HL.out.below hB1
    have hs : l ≠ [] → ∀ k, (Value.slice q l.length c).ownBlock = some k → k ≠ w.heap.size ∧ (Value.slice none 0 0).ownBlock ≠ some k := fun hne k hk => ⟨by have := HL.out.lt (flatMap_field_ne hne) k hk; omega, by simp [Value.ownBlock]⟩
    have HB1 := Lib.hid hB1; have HW1 := Lib.hid hW1; have HR := Lib.hid hR; have HS := Lib.hid hs
    clear hB1 hW1 hR hs
    go_wp2_with fail
    refine (write_any _ _ _ _ l _ HW1.out HR.out HS.out HK.out (by simp; omega)).mono ?_
    rintro e w2 ⟨v2, bv, rfl, hW⟩
    have hB2 : Below w.heap.size w w2 := HB1.out.trans (hW.upd.below HB1.out.size (Nat.le_refl _) (by simp [Value.ownBlock]))
    obtain ⟨bp, bc, hbv⟩ := (Rd.of_owns hW.own).shape
    subst hbv
    have HW := Lib.hid hW; have HB2 := Lib.hid hB2
    clear hW hB2
    go_wp2_with fail
    refine (wbytes _ _ _ _ HW.out.wr (by simp; omega)).mono ?_
    rintro e w3 ⟨r, rfl, hM⟩
    rw [List.nil_append] at hM
    have HB3 := Lib.hid (HB2.out.trans (hM.2.mono HB2.out.size))
    have HM := Lib.hid (Rd.of_owns hM.1)
    clear hM
    have hpl := pack_length (fieldsBits l)
    go_wp2_with fail
    refine (new_reader _ _ _ HM.out (by omega) (pack_lt _)).mono ?_
    rintro e w4 ⟨rp, rv, rfl, hR4, hB4, hrp, _⟩
    have hrp' : w.heap.size ≤ rp := by have := HB3.out.size; omega
    have HB4 := Lib.hid (HB3.out.trans (hB4.mono HB3.out.size))
    have HR4 := Lib.hid hR4
    clear hR4 hB4 hrp
    go_wp2_with fail
    refine (left_any _ _ _ _ _ HR4.out).mono ?_
    rintro e w5 ⟨rfl, d, rfl⟩
    have hleft : (8 * ((((fieldsBits l).length : Int) + 7) / 8) != (((fieldsBits l).length : Int) + 7) / 8 * 8) = false := by
      rw [bne_eq_false_iff_eq]; omega
    rw [hpl]
    clear hpl
    go_wp2
    have HR5 := Lib.hid (HR4.out.drewN d)
    have HB5 := Lib.hid (HB4.out.trans ((Mods.drewN (fun _ => False) w4 d).below HB4.out.size (fun _ _ e => e)))
    have hsz : w.heap.size ≤ w4.heap.size := HB4.out.size
    generalize w4.drewN d = w5 at *
    clear hleft
    go_loopw [46] (fun i wr => ∃ j : Nat, j ≤ l.length ∧ i = .int .i64 j ∧ ReaderIn wr rp rv (fieldsBits (l.take j)).length (pack (fieldsBits l)) ∧ Below w.heap.size w wr) (fun i _ => l.length - (intOf i).toNat)
    case atStart => exact ⟨0, Nat.zero_le _, rfl, HR5.out, HB5.out⟩
    case round =>
      obtain ⟨j, hj, rfl, hRr, hBr⟩ := hrel
      by_cases hjl : j < l.length
      · obtain ⟨b, off, c', hv, hc0, hc1, hbl⟩ := rd_field_cell HL.out _ hjl
        simp only [Value.slice.injEq] at hv
        obtain ⟨rfl, _, rfl⟩ := hv
        have hok := HK.out l[j] (List.getElem_mem _)
        have HF := Lib.hid (fieldsBits_take_succ l j hjl)
        have HP := Lib.hid (fields_parts l j hjl)
        have k0 : wr.cell? ⟨b, off + j * 2, none⟩ = some (.int .u64 (l[j].1 : Nat)) := (hBr.cell (p := ⟨b, off + j * 2, none⟩) hbl).trans hc0
        have k1 : wr.cell? ⟨b, off + j * 2 + 1, none⟩ = some (.int .i64 l[j].2) := (hBr.cell (p := ⟨b, off + j * 2 + 1, none⟩) hbl).trans hc1
        unfold fieldOk at hok
        unfold fieldGood at HF HP
        generalize l[j] = a at *
        obtain ⟨x, n⟩ := a
        simp only at k0 k1 hok HF HP
        have hwb : Below wr.heap.size wr (wr.alloc (.cells #[.int .u64 (x : Int), .int .i64 n] 51)) := (Below.refl _ _).alloc (Nat.le_refl _) _
        have HRa := Lib.hid (hRr.mods (Mods.of_below hwb (fun _ => False)) (fun e => e) (fun _ _ e => e))
        have HBa := Lib.hid (hBr.trans (hwb.mono hBr.size))
        have hrl := hRr.blk.lt
        clear hc0 hc1 hbl hRr hBr hwb
        by_cases hbad : n < 0 ∨ 64 < n
        · have HG : Hid (fieldsBits (l.take (j + 1)) = fieldsBits (l.take j)) := by
            show _ = _
            rw [HF.out, if_neg (by simp; omega), List.append_nil]
          rcases hbad with hbad | hbad
          · go_wp2
            go_roundw
            case rel => exact ⟨j + 1, by omega, by go_num, by rw [HG.out]; exact HRa.out, HBa.out⟩
            case measure => simp [intOf]; omega
          · have hn0 : ¬ n < 0 := by omega
            go_wp2
            go_roundw
            case rel => exact ⟨j + 1, by omega, by go_num, by rw [HG.out]; exact HRa.out, HBa.out⟩
            case measure => simp [intOf]; omega
        · obtain ⟨m, rfl⟩ := Int.eq_ofNat_of_zero_le (show 0 ≤ n by omega)
          have hg : (decide ((0 : Int) ≤ (m : Int)) && decide ((m : Int) ≤ 64)) = true := by simp; omega
          have HG : Hid ((fieldsBits (l.take (j + 1))).length = (fieldsBits (l.take j)).length + m) := by
            show _ = _
            rw [HF.out, if_pos hg, List.length_append, fieldBits_length]; simp
          have HQ : Hid (fieldsBits l = fieldsBits (l.take j) ++ fieldBits x m ++ fieldsBits (l.drop (j + 1))) := by
            show _ = _
            have := HP.out
            rw [if_pos hg] at this
            simpa using this
          have hseg : numOf (seg (pack (fieldsBits l)) (fieldsBits (l.take j)).length m) = x % 2 ^ m := by
            have := seg_pack (fieldsBits (l.take j)) (fieldBits x m) (fieldsBits (l.drop (j + 1)))
            rw [← HQ.out, fieldBits_length] at this
            rw [this, numOf_fieldBits]
          have hfit : (fieldsBits (l.take j)).length + m ≤ 8 * (pack (fieldsBits l)).length := by
            have := congrArg List.length HQ.out
            simp only [List.length_append, fieldBits_length] at this
            rw [pack_length]; omega
          have hYx : m = 64 → x % 2 ^ m = x := fun e => Nat.mod_eq_of_lt (by rw [e]; exact hok.1)
          have hYm : m < 64 → bits BinOp.and IntKind.u64 (x : Int) (IntKind.u64.wrap (IntKind.u64.wrap (2 ^ m) - 1)) = ((x % 2 ^ m : Nat) : Int) := fun e => mask_u64' x m hok.1 e
          generalize x % 2 ^ m = Y at *
          have HE := Lib.hid hseg; have HX := Lib.hid hYx; have HY := Lib.hid hYm
          clear hseg HF HP HQ hg hYx hYm
          have hn0 : ¬ (m : Int) < 0 := by omega
          have hn1 : ¬ 64 < (m : Int) := by omega
          go_wp2_with fail
          refine (rbits _ _ _ _ _ _ HRa.out (by omega) hfit).mono ?_
          rintro e w6 ⟨rfl, hP⟩
          rw [HE.out]
          have hblk := hP.mods.blk (Blk.new wr #[.int .u64 (x : Int), .int .i64 (m : Int)] 51) (fun e => by omega)
          have c0 : w6.cell? ⟨wr.heap.size, 0, none⟩ = some (.int .u64 x) := by rw [hblk.cell]; rfl
          have c1 : w6.cell? ⟨wr.heap.size, 1, none⟩ = some (.int .i64 (m : Int)) := by rw [hblk.cell]; rfl
          have HR6 := Lib.hid hP.rd
          have HB6 := Lib.hid (HBa.out.trans (hP.mods.below HBa.out.size (fun k hk e => by omega)))
          clear hP hblk hfit
          by_cases h64 : (m : Int) < 64
          · go_wp2
            go_quiet (fail)
            rw [HY.out (by omega)]
            have HRq := Lib.hid (HR6.out.drewN nq)
            have HBq := Lib.hid (HB6.out.trans ((Mods.drewN (fun _ => False) w6 nq).below HB6.out.size (fun _ _ e => e)))
            go_wp2
            go_roundw
            case rel => exact ⟨j + 1, by omega, by go_num, by rw [HG.out]; exact HRq.out, HBq.out⟩
            case measure => simp [intOf]; omega
          · rw [HX.out (by omega)]
            go_wp2
            go_roundw
            case rel => exact ⟨j + 1, by omega, by go_num, by rw [HG.out]; exact HR6.out, HB6.out⟩
            case measure => simp [intOf]; omega
      · obtain rfl : j = l.length := by omega
        rw [List.take_length] at hRr
        go_wp2_with fail
        refine (alive_any _).mono ?_
        rintro e w6 ⟨rfl, hB6⟩
        have HR6 := Lib.hid (hRr.mods (Mods.of_below hB6 (fun _ => False)) (fun e => e) (fun _ _ e => e))
        have HB6 := Lib.hid (hBr.trans (hB6.mono hBr.size))
        clear hRr hBr hB6
        go_wp2_with fail
        refine (rend _ _ _ _ _ HR6.out).mono ?_
        rintro e w7 ⟨rfl, d', rfl⟩
        have hend : endOf (pack (fieldsBits l)) (fieldsBits l).length = 0 := by rw [endOf, if_neg (by rw [pack_length]; omega), if_pos (endOf_pack_aux _)]
        rw [hend]
        go_wp2_with fail
        go_ret
        exact ⟨rfl, HB6.out.trans ((Mods.drewN (fun _ => False) _ d').below HB6.out.size (fun _ _ e => e))⟩
end Go.Proofs.Ytgcfgickpooaaaa.bitioRoundTrip
