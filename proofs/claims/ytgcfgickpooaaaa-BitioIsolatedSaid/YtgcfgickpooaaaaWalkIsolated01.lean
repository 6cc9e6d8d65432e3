/- Layer 1: BitioIsolated, walked. -/
import Derived.Test.YtgcfgickpooaaaaClone01
set_option linter.unusedVariables false
namespace Go.Proofs.Ytgcfgickpooaaaa.bitioIsolated
open Go Go.RowKit
theorem flatMap_field_ne {l : List (Nat × Int)} (h : l ≠ []) : l.flatMap fieldCells ≠ [] := by
  cases l with
  | nil => exact absurd rfl h
  | cons a l => simp [fieldCells]

theorem seg_byte (b : List Nat) (j : Nat) (hj : j < b.length) (h8 : b[j] < 256) : numOf (seg b (8 * j) 8) = b[j] := by
  have e : seg b (8 * j) 8 = fieldBits b[j] 8 := by
    have hd : b = b.take j ++ b[j] :: b.drop (j + 1) := by rw [List.getElem_cons_drop hj, List.take_append_drop]
    simp only [seg]
    conv => lhs; rw [hd]
    rw [unpack_append, unpack_cons]
    have hl : (unpack (b.take j)).length = 8 * j := by rw [unpack_length, List.length_take]; congr 1; omega
    rw [← hl, List.drop_left]
    have := fieldBits_length b[j] 8
    exact List.take_left' this
  rw [e, numOf_fieldBits]
  omega

set_option maxHeartbeats 2000000 in
theorem walk (w : World) (v : Value) (l : List (Nat × Int)) (ok : ∀ a ∈ l, fieldOk a) (hl : Rd w 2 v l.length (l.flatMap fieldCells)) (hz : l.length * 16 ≤ 140737488351232)
    (bv : Value) (b : List Nat) (okb : ∀ x ∈ b, x < 256) (hb : Rd w 1 bv b.length (u8s b)) (hzb : b.length * 1 ≤ 140737488351232) :
    Calls Try.prog 7 #[v, bv] w fun e w' => e = .returned (.bool true) ∧ Below w.heap.size w w' := by
  have HL := Lib.hid hl
  have HK := Lib.hid ok
  have HBb := Lib.hid hb
  have HKb := Lib.hid okb
  obtain ⟨q, c, hv⟩ := hl.shape
  subst hv
  obtain ⟨qb, cb, hv⟩ := hb.shape
  subst hv
  clear hl ok hb okb
  by_cases hlt : 300 < l.length
  · have hlt' : (300 : Int) < (l.length : Int) := by omega
    go_enter Try.func7, Try.ntmps7
    go_wp2_with fail
    refine (alive_any _).mono ?_
    rintro e w1 ⟨rfl, hB⟩
    go_wp2_with fail
    go_ret
    exact ⟨rfl, hB⟩
  by_cases hltb : 300 < b.length
  · have hlt' : ¬ (300 : Int) < (l.length : Int) := by omega
    have hltb' : (300 : Int) < (b.length : Int) := by omega
    go_enter Try.func7, Try.ntmps7
    go_wp2_with fail
    refine (alive_any _).mono ?_
    rintro e w1 ⟨rfl, hB⟩
    go_wp2_with fail
    go_ret
    exact ⟨rfl, hB⟩
  have hlt' : ¬ (300 : Int) < (l.length : Int) := by omega
  have hltb' : ¬ (300 : Int) < (b.length : Int) := by omega
  have hfl := fieldsBits_length l
  go_enter Try.func7, Try.ntmps7
  go_wp2_with fail
  refine (new_writer _).mono ?_
  rintro e w1 ⟨rfl, hW1, hB1⟩
  have hR := HL.out.below hB1
  have hs : l ≠ [] → ∀ k, (Value.slice q l.length c).ownBlock = some k → k ≠ w.heap.size ∧ (Value.slice none 0 0).ownBlock ≠ some k := fun hne k hk => ⟨by have := HL.out.lt (flatMap_field_ne hne) k hk; omega, by simp [Value.ownBlock]⟩
  have HB1 := Lib.hid hB1; have HW1 := Lib.hid hW1; have HR := Lib.hid hR; have HS := Lib.hid hs
  clear hB1 hW1 hR hs
  go_wp2_with fail
  refine (write_any _ _ _ _ l _ HW1.out HR.out HS.out HK.out (by simp; omega)).mono ?_
  rintro e w2 ⟨v2, bv2, rfl, hW⟩
  have hB2 : Below w.heap.size w w2 := HB1.out.trans (hW.upd.below HB1.out.size (Nat.le_refl _) (by simp [Value.ownBlock]))
  obtain ⟨bp, bc, hbv⟩ := (Rd.of_owns hW.own).shape
  subst hbv
  have hp1 : w.heap.size < w1.heap.size := HW1.out.blk.lt
  have HW := Lib.hid hW; have HB2 := Lib.hid hB2
  clear hW hB2 HR HS HW1
  -- got
  go_wp2_with fail
  refine (wbytes _ _ _ _ HW.out.wr (by simp; omega)).mono ?_
  rintro e w3 ⟨r, rfl, hM⟩
  rw [List.nil_append] at hM
  have HW3 := Lib.hid (HW.out.below hM.2)
  have HB3 := Lib.hid (HB2.out.trans (hM.2.mono HB2.out.size))
  have HM := Lib.hid hM
  have hvs : v2.ownBlock ≠ some w.heap.size := HW.out.wr.ne
  have hpw2 : w.heap.size < w2.heap.size := HW.out.wr.blk.lt
  have hv2 := owns_lt HW.out.wr.own
  have HV2 := Lib.hid hv2
  clear hM hv2
  -- the writer again
  go_wp2_with fail
  refine (wbits _ _ _ 18446744073709551615 64 _ HW3.out.wr (by omega) (by simp; omega)).mono ?_
  rintro e w4 ⟨rfl, v3, hW4, hU4⟩
  rw [List.nil_append] at hW4
  have hgot : w4.ownsRow w2.heap.size 5 1 r (pack (fieldsBits l)).length (u8s (pack (fieldsBits l))) := hU4.mods.owns HM.out.1 (fun k hk e => by
    have h1 := (HM.out.1.lt k hk).1
    rcases e with e | e
    · omega
    · have := HV2.out k e; omega)
  have hbits : BitsIn w4 (.slice bp (fieldsBits l).length bc) (fieldsBits l) := hU4.mods.owns HW3.out.own (fun k hk e => by
    have h1 := HW3.out.new k hk
    rcases e with e | e
    · omega
    · exact h1.2 e)
  have hB4 : Below w.heap.size w w4 := HB3.out.trans (hU4.below HB3.out.size (Nat.le_refl _) (fun k hk => by
    rcases HW.out.upd.fresh k hk with e | e
    · simp [Value.ownBlock] at e
    · omega))
  have HG4 := Lib.hid hgot; have HBt4 := Lib.hid hbits; have HW4 := Lib.hid hW4; have HB4 := Lib.hid hB4
  have HBb4 := Lib.hid (HBb.out.below (HB4.out))
  clear hgot hbits hW4 hB4 hU4 HM HW3 HW HV2 hvs
  -- the clone
  go_wp2_with fail
  refine (bytes_clone _ _ _ _ HBb4.out (u8s_oneCell _) (by omega)).mono ?_
  rintro e w5 ⟨cl, rfl, hC⟩
  have HC := Lib.hid hC
  have hCl : (∃ g cp, cl = .slice (some ⟨g, 0, none⟩) b.length cp ∧ w4.heap.size ≤ g ∧ g < w5.heap.size) ∨ (cl = .slice none 0 0 ∧ b.length = 0) := by
    rcases owns_cases hC.1 with ⟨h1, h2, _⟩ | ⟨g, cp, h1, h2, _⟩
    · exact Or.inr ⟨h1, h2⟩
    · exact Or.inl ⟨g, cp, h1, (hC.1.lt g (by rw [h1]; rfl)).1, h2⟩
  have HCl := Lib.hid hCl
  have HB5 := Lib.hid (HB4.out.trans (hC.2.mono HB4.out.size))
  clear hC hCl
  go_wp2_with fail
  refine (new_reader _ b _ (Rd.of_owns HC.out.1) (by omega) HKb.out).mono ?_
  rintro e w6 ⟨rp, rv, rfl, hR6, hB6, hrp, hrv⟩
  have HR6 := Lib.hid hR6
  have HCo := Lib.hid ((Mods.of_below hB6 (fun _ => False)).owns HC.out.1 (fun _ _ e => e))
  have HB46 := Lib.hid (HC.out.2.trans (hB6.mono HC.out.2.size))
  have HB6 := Lib.hid (HB5.out.trans (hB6.mono HB5.out.size))
  have HRV := Lib.hid hrv
  have h46 : w4.heap.size ≤ w5.heap.size := HC.out.2.size
  clear hR6 hB6 hrv HC
  have hW6 : WriterIn w6 w.heap.size v3 (fieldsBits l ++ fieldBits 18446744073709551615 64) := HW4.out.below HB46.out
  have hG6 := (Mods.of_below HB46.out (fun _ => False)).owns HG4.out (fun _ _ e => e)
  have hT6 : BitsIn w6 (.slice bp (fieldsBits l).length bc) (fieldsBits l) := (Mods.of_below HB46.out (fun _ => False)).owns HBt4.out (fun _ _ e => e)
  have hv3 := owns_lt HW4.out.own
  have hgot4 := owns_lt HG4.out
  have hbt4 := owns_lt HBt4.out
  have hwp4 : w.heap.size < w4.heap.size := HW4.out.blk.lt
  have HW6 := Lib.hid hW6; have HG6 := Lib.hid hG6; have HT6 := Lib.hid hT6; have HV3 := Lib.hid hv3; have HGO := Lib.hid hgot4; have HBT := Lib.hid hbt4
  clear hW6 hG6 hT6 hv3 hgot4 hbt4 HW4 HG4 HBt4 HBb4 HB46
  -- the clone is spoilt
  have HD : Hid (∀ wr, Mods (fun k => cl.ownBlock = some k) w6 wr → WriterIn wr w.heap.size v3 (fieldsBits l ++ fieldBits 18446744073709551615 64) ∧ wr.ownsRow w2.heap.size 5 1 r (pack (fieldsBits l)).length (u8s (pack (fieldsBits l))) ∧ BitsIn wr (.slice bp (fieldsBits l).length bc) (fieldsBits l) ∧ ReaderIn wr rp rv 0 b ∧ Below w.heap.size w wr) := by
    intro wr hm
    have hcl : ∀ k, cl.ownBlock = some k → w4.heap.size ≤ k ∧ k < w5.heap.size := fun k hk => by
      rcases HCl.out with ⟨g, cp, rfl, h1, h2⟩ | ⟨rfl, _⟩
      · simp [Value.ownBlock] at hk; omega
      · simp [Value.ownBlock] at hk
    refine ⟨HW6.out.mods hm (fun e => by have := hcl _ e; omega) (fun k hk e => by have := hcl _ e; have := HV3.out k hk; omega), hm.owns HG6.out (fun k hk e => by have := hcl _ e; have := HGO.out k hk; omega),
      hm.owns HT6.out (fun k hk e => by have := hcl _ e; have := HBT.out k hk; omega), HR6.out.mods hm (fun e => by have := hcl _ e; omega) (fun k hk e => by have := hcl _ e; have := HRV.out k hk; omega),
      HB6.out.trans (hm.below HB6.out.size (fun k hk e => by have := hcl _ e; omega))⟩
  clear HR6 HB6 HW6 HG6 HT6
  have hrp4 : w4.heap.size ≤ rp := by omega
  obtain ⟨clp, clc, hcsh⟩ := (Rd.of_owns HCo.out).shape
  subst hcsh
  go_wp2
  go_loopw [50] (fun i wr => ∃ (j : Nat) (cs : List Nat), j ≤ b.length ∧ i = .int .i64 j ∧ wr.ownsRow w4.heap.size 5 1 (.slice clp b.length clc) b.length (u8s cs) ∧ (∀ x ∈ cs, x < 256) ∧ Mods (fun k => (Value.slice clp b.length clc).ownBlock = some k) w6 wr) (fun i _ => b.length - (intOf i).toNat)
  case atStart => exact ⟨0, b, Nat.zero_le _, rfl, HCo.out, HKb.out, Mods.refl _ _⟩
  case round =>
    obtain ⟨j, cs, hj, rfl, hown, h8, hm⟩ := hrel
    by_cases hjl : j < b.length
    · rcases HCl.out with ⟨g, cp, e, _, _⟩ | ⟨_, e⟩
      · simp only [Value.slice.injEq] at e
        obtain ⟨rfl, _, rfl⟩ := e
        have hcl : cs.length = b.length := by have := hown.1; rw [u8s_length] at this; omega
        have hcell : wr.cell? ⟨g, j, none⟩ = some (.int .u8 (cs[j] : Nat)) := by rw [hown.cellAt j (by omega), u8s_get cs j (by omega)]
        have hfz : wr.frozen? ⟨g, j, none⟩ = false := hown.frozenAt j
        have HO := Lib.hid hown; have HM := Lib.hid hm; have H8 := Lib.hid h8
        have hx := h8 cs[j] (List.getElem_mem _)
        clear hown hm h8
        generalize cs[j] = x at *
        go_wp2
        go_roundw
        case rel =>
          have h1 := (HO.out.stored j (.int .u8 (((x + 1) % 256 : Nat) : Int))).1
          rw [u8s_set] at h1
          refine ⟨j + 1, cs.set j ((x + 1) % 256), by omega, by go_num, ?_, fun y hy => ?_, ?_⟩
          · have e : ((x : Int) + 1) % 256 = (((x + 1) % 256 : Nat) : Int) := by omega
            first | (rw [e]; exact h1) | (rw [IntKind.wrap_u8, e]; exact h1)
          · rcases List.mem_or_eq_of_mem_set hy with hy | hy
            · exact H8.out y hy
            · omega
          · exact HM.out.trans (Mods.set (fun k => k = g) _ ⟨g, j, none⟩ _ (fun _ => rfl)) (fun k _ e => by rw [e]; rfl)
        case measure => simp [intOf]; omega
      · omega
    · obtain rfl : j = b.length := by omega
      obtain ⟨wo, rfl⟩ : ∃ wo : World, wo = wr := ⟨_, rfl⟩
      have HX := Lib.hid (HD.out wo hm)
      clear hm hown h8 HD HCl HCo
      go_wp2
      go_loopw [62] (fun i wr => ∃ j : Nat, j ≤ b.length ∧ i = .int .i64 j ∧ ReaderIn wr rp rv (8 * j) b ∧ Mods (fun k => k = rp) wo wr) (fun i _ => b.length - (intOf i).toNat)
      case atStart => exact ⟨0, Nat.zero_le _, rfl, HX.out.2.2.2.1, Mods.refl _ _⟩
      case round =>
        obtain ⟨j, hj, rfl, hR, hm⟩ := hrel
        have hBw : Below w.heap.size w wr := HX.out.2.2.2.2.trans (hm.below HX.out.2.2.2.2.size (fun k hk e => by omega))
        by_cases hjl : j < b.length
        · obtain ⟨g, off, c', hv, hcell, hbl⟩ := rd_u8_cell HBb.out j hjl
          simp only [Value.slice.injEq] at hv
          obtain ⟨rfl, _, rfl⟩ := hv
          have hcw : wr.cell? ⟨g, off + j, none⟩ = some (.int .u8 (b[j] : Nat)) := (hBw.cell (p := ⟨g, off + j, none⟩) hbl).trans hcell
          have h8 := HKb.out b[j] (List.getElem_mem _)
          have HS := Lib.hid (seg_byte b j hjl h8)
          have HR := Lib.hid hR; have HM := Lib.hid hm
          clear hR hm hcell hbl hBw
          generalize b[j] = x at *
          go_wp2_with fail
          refine (rbits _ _ _ 8 _ _ HR.out (by omega) (by omega)).mono ?_
          rintro e w7 ⟨rfl, hP⟩
          rw [HS.out]
          have HP := Lib.hid hP
          clear hP
          go_wp2
          go_roundw
          case rel => exact ⟨j + 1, by omega, by go_num, HP.out.rd, HM.out.trans HP.out.mods (fun _ _ e => e)⟩
          case measure => simp [intOf]; omega
        · obtain rfl : j = b.length := by omega
          have hW7 := HX.out.1.mods hm (fun e => by omega) (fun k hk e => by have := HV3.out k hk; omega)
          have hG7 := hm.owns HX.out.2.1 (fun k hk e => by have := HGO.out k hk; omega)
          have hT7 := hm.owns HX.out.2.2.1 (fun k hk e => by have := HBT.out k hk; omega)
          have HW7 := Lib.hid hW7; have HG7 := Lib.hid hG7; have HT7 := Lib.hid hT7; have HR7 := Lib.hid hR; have HB7 := Lib.hid hBw
          clear hW7 hG7 hT7 hR hBw hm HX
          go_wp2_with fail
          refine (alive_any _).mono ?_
          rintro e w8 ⟨rfl, hB8⟩
          have HW8 := Lib.hid (HW7.out.below hB8)
          have HG8 := Lib.hid ((Rd.of_owns HG7.out).below hB8)
          have HT8 := Lib.hid ((Rd.of_owns HT7.out).below hB8)
          have HR8 := Lib.hid (HR7.out.mods (Mods.of_below hB8 (fun _ => False)) (fun e => e) (fun _ _ e => e))
          have HB8 := Lib.hid (HB7.out.trans (hB8.mono HB7.out.size))
          clear hB8
          go_wp2_with fail
          refine (ref_pack _ _ _ HT8.out (by omega)).mono ?_
          rintro e w9 ⟨r2, rfl, hM2⟩
          have HW9 := Lib.hid (HW8.out.below hM2.2)
          have HG9 := Lib.hid (HG8.out.below hM2.2)
          have HR9 := Lib.hid (HR8.out.mods (Mods.of_below hM2.2 (fun _ => False)) (fun e => e) (fun _ _ e => e))
          have HB9 := Lib.hid (HB8.out.trans (hM2.2.mono HB8.out.size))
          have HM2 := Lib.hid (Rd.of_owns hM2.1)
          clear hM2
          go_wp2_with fail
          refine (equal_any _ _ _ _ _ _ _ HG9.out HM2.out (pack_lt _) (pack_lt _)).mono ?_
          rintro e w10 ⟨rfl, rfl⟩
          rw [decide_eq_true rfl]
          go_wp2_with fail
          refine (wlen _ _ _ _ HW9.out).mono ?_
          rintro e w10 ⟨rfl, rfl⟩
          rw [show (((fieldsBits l ++ fieldBits 18446744073709551615 64).length : Nat) : Int) = ((fieldsBits l).length : Int) + 64 from by rw [List.length_append, fieldBits_length]; omega]
          go_wp2_with fail
          refine (left_any _ _ _ _ _ HR9.out).mono ?_
          rintro e w10 ⟨rfl, d, rfl⟩
          rw [show (8 * (b.length : Int) - ((8 * b.length : Nat) : Int)) = 0 from by omega]
          go_wp2_with fail
          go_ret
          exact ⟨rfl, HB9.out.trans ((Mods.drewN (fun _ => False) _ d).below HB9.out.size (fun _ _ e => e))⟩
end Go.Proofs.Ytgcfgickpooaaaa.bitioIsolated
