/- Layer 4: WireRoundTrip, walked, for whatever reader and appends meet the interfaces. -/
import Derived.Test.YtkgghlhmgolfbaaDoorWireAp
import Derived.Test.YtkgghlhmgolfbaaDoorStep04
set_option linter.unusedVariables false
namespace Go.Proofs.YtkgghlhmgolfbaaDoor.wireRoundTrip
open Go Go.RowKit
variable {G : Nat} {T : World → Prop} {R : World → Nat → Value → List Nat → Nat → Int → Prop}

def cost (L : List ByteArray) : Nat → Nat
  | 0 => 0
  | k + 1 => cost L k + (1 + min (L.getD k ⟨#[]⟩).size 2000)
def idOf (ids : List Nat) (i : Nat) : Nat := if i < ids.length then ids.getD i 0 else i % 256
def piece (ids : List Nat) (i : Nat) (s : ByteArray) : List Nat := bytesOf (numsOf s) ++ frameOf (idOf ids i) (numsOf s)
def enc (ids : List Nat) (L : List ByteArray) : Nat → List Nat
  | 0 => []
  | k + 1 => enc ids L k ++ piece ids k (L.getD k ⟨#[]⟩)
theorem cost_le {L : List ByteArray} {j k : Nat} (h : j ≤ k) : cost L j ≤ cost L k := by
  induction h with
  | refl => exact Nat.le_refl _
  | step _ ih => rw [cost]; omega
theorem idOf_lt {ids : List Nat} (ok : ∀ a ∈ ids, a < 256) (i : Nat) : idOf ids i < 256 := by
  unfold idOf
  split
  · next h => rw [List.getD_eq_getElem?_getD, List.getElem?_eq_getElem h]; exact ok _ (List.getElem_mem h)
  · exact Nat.mod_lt _ (by decide)
theorem enc_length {ids : List Nat} {L : List ByteArray} {k : Nat} (h : cost L k < 2001) : (enc ids L k).length ≤ 25 * cost L k := by
  induction k with
  | zero => simp [enc]
  | succ k ih =>
    rw [cost] at h
    have h0 := ih (by omega)
    have hs : (L.getD k ⟨#[]⟩).size < 2000 := by omega
    rw [enc, piece, List.length_append, List.length_append, bytesOf_length, frameOf_length, numsOf_length, cost]
    have := groups_ten (x := (L.getD k ⟨#[]⟩).size) (by omega)
    omega
theorem enc_split {ids : List Nat} {L : List ByteArray} {k n : Nat} (h : k < n) : ∃ rest, enc ids L n = enc ids L k ++ bytesOf (numsOf (L.getD k ⟨#[]⟩)) ++ frameOf (idOf ids k) (numsOf (L.getD k ⟨#[]⟩)) ++ rest := by
  induction h with
  | refl => exact ⟨[], by rw [enc, piece]; simp⟩
  | step _ ih =>
    obtain ⟨r, hr⟩ := ih
    exact ⟨r ++ piece ids _ _, by rw [enc, hr, List.append_assoc]⟩
theorem enc_lt {ids : List Nat} (ok : ∀ a ∈ ids, a < 256) (L : List ByteArray) (k : Nat) : ∀ c ∈ enc ids L k, c < 256 := by
  induction k with
  | zero => simp [enc]
  | succ k ih =>
    intro c hc
    rw [enc, piece] at hc
    rcases List.mem_append.1 hc with h | h
    · exact ih c h
    · rcases List.mem_append.1 h with h | h
      · exact bytesOf_lt (numsOf_lt _) c h
      · exact frameOf_lt (idOf_lt ok k) (numsOf_lt _) c h

/-- The function that numbers the sections. -/
theorem idx (i : Nat) (hi : i ≤ 9223372036854775807) (w : World) (b : Nat) (q : Option Addr) (c : Nat) (ids : List Nat) (hc : w.cell? ⟨b, 0, none⟩ = some (.slice q ids.length c)) (hr : Rd w 1 (.slice q ids.length c) ids.length (u8s ids)) :
    Calls Tryd.prog 20 #[.int .i64 (i : Int), .pointer (some ⟨b, 0, none⟩)] w fun e w' => e = .returned (.int .u8 ((idOf ids i : Nat) : Int)) ∧ Below w.heap.size w w' := by
  by_cases h : i < ids.length
  · obtain ⟨bk, off, c', hv, _, _, hcell⟩ := hr.at (fun e => by have := congrArg List.length e; rw [u8s_length] at this; simp at this; subst this; simp at h)
    simp only [Value.slice.injEq] at hv
    obtain ⟨rfl, _, rfl⟩ := hv
    have hcl := hcell i _ (u8s_get _ _ h)
    have HI : Hid (idOf ids i = ids[i]) := by show _ = _; rw [idOf, if_pos h, List.getD_eq_getElem?_getD, List.getElem?_eq_getElem h]; rfl
    have h' : (i : Int) < (ids.length : Int) := by omega
    rw [HI.out]
    clear hcell hr
    generalize ids[i] = x at *
    go_enter Tryd.func20, Tryd.ntmps20
    go_wp2_with fail
    go_ret
    exact ⟨rfl, Below.refl _ _⟩
  · have HI : Hid ((i : Int) % 256 = ((idOf ids i : Nat) : Int)) := by show _ = _; rw [idOf, if_neg h]; omega
    have h' : ¬ (i : Int) < (ids.length : Int) := by omega
    clear hr
    go_enter Tryd.func20, Tryd.ntmps20
    go_wp2_with fail
    go_ret
    exact ⟨by rw [← HI.out]; rfl, Below.refl _ _⟩

set_option maxHeartbeats 8000000 in
theorem walk (I : WIf G T R) (Z : WAp T) (hal : ∀ w, T w → Calls Tryd.prog 9 #[] w fun e w' => e = .returned (.bool true) ∧ Below w.heap.size w w')
    (w : World) (hT : T w) (vl : Value) (L : List ByteArray) (okL : ∀ s ∈ L, s.size ≤ maxLen) (hL : Rd w 1 vl L.length (L.map fun s => Value.string s)) (hz : L.length * 16 ≤ 140737488351232)
    (vi : Value) (ids : List Nat) (oki : ∀ a ∈ ids, a < 256) (hi : Rd w 1 vi ids.length (u8s ids)) :
    Calls Tryd.prog 5 #[vl, vi] w fun e w' => e = .returned (.bool true) ∧ Below w.heap.size w w' := by
  have HO := Lib.hid oki
  have HK := Lib.hid okL
  have HAL := Lib.hid hal
  have HT := Lib.hid hT
  have HI := Lib.hid hi
  have HGet : Hid (∀ wr, Below w.heap.size w wr → ∀ k, k < L.length → ∃ bk off c, vl = .slice (some ⟨bk, off, none⟩) L.length c ∧ wr.cell? ⟨bk, off + k, none⟩ = some (.string (L.getD k ⟨#[]⟩))) := fun wr hb k hk => by
    obtain ⟨bk, off, c, hv, _, hbl, hcell⟩ := hL.at (fun e => by have := congrArg List.length e; simp at this; subst this; simp at hk)
    have h2 := hcell k (.string (L.getD k ⟨#[]⟩)) (by rw [List.getElem?_map, List.getD_eq_getElem?_getD, List.getElem?_eq_getElem hk]; rfl)
    exact ⟨bk, off, c, hv, (hb.cell (World.block_lt_of_cell? w _ h2)).trans h2⟩
  obtain ⟨ql, cl, hv⟩ := hL.shape
  subst hv
  obtain ⟨qi, ci, hv⟩ := hi.shape
  subst hv
  have HB0 : Hid (Below w.heap.size w (w.alloc (.cells #[.slice qi ids.length ci] 22))) := (Below.refl _ _).alloc (Nat.le_refl _) _
  have HC0 : Hid ((w.alloc (.cells #[.slice qi ids.length ci] 22)).cell? ⟨w.heap.size, 0, none⟩ = some (.slice qi ids.length ci)) := by show _ = _; simp [World.cell?_alloc_mark]
  clear hT hL hi oki okL hal
  go_enter Tryd.func5, Tryd.ntmps5
  go_wp2_with fail
  go_loopw [5, 17] (fun n i wr => ∃ k : Nat, k ≤ L.length ∧ n = .int .i64 ((cost L k : Nat) : Int) ∧ i = .int .i64 (k : Int) ∧ Hid (cost L k ≤ 2000) ∧ wr = w.alloc (.cells #[.slice qi ids.length ci] 22)) (fun _ i _ => L.length - (intOf i).toNat)
  case atStart => exact ⟨0, Nat.zero_le _, rfl, rfl, Nat.zero_le _, rfl⟩
  case round =>
    obtain ⟨k, hk, rfl, rfl, HN, rfl⟩ := hrel
    by_cases hkl : k < L.length
    · have hkl' : (k : Int) < (L.length : Int) := by omega
      obtain ⟨bk, off, c', hv, hcell⟩ := HGet.out _ HB0.out k hkl
      simp only [Value.slice.injEq] at hv
      obtain ⟨rfl, _, rfl⟩ := hv
      have HS : Hid ((L.getD k ⟨#[]⟩).size ≤ maxLen) := by show _ ≤ _; rw [List.getD_eq_getElem?_getD, List.getElem?_eq_getElem hkl]; exact HK.out _ (List.getElem_mem hkl)
      have HCo : Hid (cost L (k + 1) = cost L k + (1 + min (L.getD k ⟨#[]⟩).size 2000)) := rfl
      generalize L.getD k ⟨#[]⟩ = s at *
      have HT1 := Lib.hid (I.keeps HT.out (Mods.of_below HB0.out (fun _ => False)) (fun _ _ h => h))
      have hN : cost L k ≤ 2000 := HN.out
      generalize hD : cost L (k + 1) = D at HCo ⊢
      have HD := Lib.hid hD
      generalize cost L k = C at *
      clear hD hk
      by_cases hs : s.size ≤ 2000
      · have hs1 : (s.size : Int) ≤ 2000 := by omega
        have HE : Hid ((C : Int) + (1 + (s.size : Int)) = ((D : Nat) : Int)) := by show _ = _; rw [HCo.out, Nat.min_eq_left hs]; omega
        by_cases hd : D ≤ 2000
        · have hd' : ¬ (2000 : Int) < (C : Int) + (1 + (s.size : Int)) := by rw [HE.out]; omega
          go_wp2_with fail
          go_roundw
          case rel => exact ⟨k + 1, by omega, by rw [HE.out, ← HD.out], by go_num, by show _ ≤ _; rw [HD.out]; exact hd, by trivial⟩
          case measure => simp [intOf]; omega
        · have hd' : (2000 : Int) < (C : Int) + (1 + (s.size : Int)) := by rw [HE.out]; omega
          go_wp2_with fail
          refine (HAL.out _ HT1.out).mono ?_
          rintro en w1 ⟨rfl, hB⟩
          have HB1 := Lib.hid (HB0.out.trans (hB.mono HB0.out.size))
          clear hB
          go_wp2_with fail
          go_ret
          exact ⟨rfl, HB1.out⟩
      · have hs2 : (2000 : Int) < (s.size : Int) := by omega
        have hd' : (2000 : Int) < (C : Int) + 2001 := by omega
        generalize hX : (C : Int) + 2001 = X at hd'
        have hX1 : X ≤ 4001 := by omega
        have HX := Lib.hid hX
        clear hs HCo hX
        have hwr : (C : Int) + 2001 = X := HX.out
        have HN2 := Lib.hid hN
        clear hN
        set_option maxRecDepth 4000 in go_wp2_with fail
        refine (HAL.out _ HT1.out).mono ?_
        rintro en w1 ⟨rfl, hB⟩
        have HB1 := Lib.hid (HB0.out.trans (hB.mono HB0.out.size))
        clear hB
        go_wp2_with fail
        go_ret
        exact ⟨rfl, HB1.out⟩
    · have hkl' : ¬ (k : Int) < (L.length : Int) := by omega
      have HCost : Hid (cost L L.length ≤ 2000) := by
        have h : k = L.length := by omega
        show _ ≤ _
        rw [← h]
        exact HN.out
      have HT1 := Lib.hid (I.keeps HT.out (Mods.of_below HB0.out (fun _ => False)) (fun _ _ h => h))
      have HI1 := Lib.hid (HI.out.below HB0.out)
      have hbx := World.block_lt_of_cell? _ _ HC0.out
      have HBX : Hid (w.heap.size < (w.alloc (.cells #[.slice qi ids.length ci] 22)).heap.size) := hbx
      clear hbx HT HI
      generalize cost L k = C at *
      clear HN hk hkl
      generalize w.alloc (.cells #[.slice qi ids.length ci] 22) = w1 at *
      go_wp2_with fail
      go_loopw [8, 34] (fun v i wr => ∃ k : Nat, k ≤ L.length ∧ i = .int .i64 (k : Int) ∧ Hid (wr.ownsRow w1.heap.size 5 1 v (enc ids L k).length (u8s (enc ids L k))) ∧ Hid (Below w1.heap.size w1 wr)) (fun _ i _ => L.length - (intOf i).toNat)
      case atStart => exact ⟨0, Nat.zero_le _, rfl, ⟨by simp [enc, u8s], Or.inl ⟨rfl, rfl⟩⟩, Below.refl _ _⟩
      case round =>
        obtain ⟨j, hj, rfl, HOj, HBj⟩ := hrel
        obtain ⟨qv, cv, hv⟩ := (Rd.of_owns HOj.out).shape
        subst hv
        by_cases hjl : j < L.length
        · have hjl' : (j : Int) < (L.length : Int) := by omega
          obtain ⟨bk, off, c', hv, hcell⟩ := HGet.out _ (HB0.out.trans (HBj.out.mono HB0.out.size)) j hjl
          simp only [Value.slice.injEq] at hv
          obtain ⟨rfl, _, rfl⟩ := hv
          have hc1 : cost L (j + 1) ≤ 2000 := Nat.le_trans (cost_le (by omega)) HCost.out
          have hen := enc_length (ids := ids) (L := L) (k := j) (by have := cost_le (L := L) (show j ≤ j + 1 by omega); omega)
          have hcj : cost L j ≤ 2000 := by have := cost_le (L := L) (show j ≤ j + 1 by omega); omega
          have HEN : Hid ((enc ids L j).length ≤ 50000) := by show _ ≤ _; omega
          have HS : Hid ((L.getD j ⟨#[]⟩).size < 2000) := by show _ < _; rw [cost] at hc1; omega
          have HE : Hid (enc ids L (j + 1) = enc ids L j ++ (bytesOf (numsOf (L.getD j ⟨#[]⟩)) ++ frameOf (idOf ids j) (numsOf (L.getD j ⟨#[]⟩)))) := rfl
          have HTj := Lib.hid (I.keeps HT1.out (Mods.of_below HBj.out (fun _ => False)) (fun _ _ h => h))
          clear hc1 hen hcj
          generalize L.getD j ⟨#[]⟩ = s at *
          go_wp2_with fail
          refine (Z.str _ _ (enc ids L j) s _ HTj.out (owns_rebase HOj.out (fun _ _ => Nat.zero_le _)) (by have := HEN.out; have := HS.out; omega)).mono ?_
          rintro en w2 ⟨v2, rfl, hP⟩
          have HFj : Hid (∀ k, (Value.slice qv (enc ids L j).length cv).ownBlock = some k → w1.heap.size ≤ k) := fun k hk => (HOj.out.lt k hk).1
          have HB2 : Hid (Below w1.heap.size w1 w2) := HBj.out.trans (hP.below HBj.out.size HFj.out)
          have HO2 : Hid (w2.ownsRow w1.heap.size 5 1 v2 _ (u8s (enc ids L j ++ bytesOf (numsOf s)))) := hP.made HBj.out.size HFj.out
          obtain ⟨q2, c2, hr⟩ := (Rd.of_owns HO2.out).shape
          subst hr
          have HT2 := Lib.hid (I.keeps HT1.out (Mods.of_below HB2.out (fun _ => False)) (fun _ _ h => h))
          have HC2 : Hid (w2.cell? ⟨w.heap.size, 0, none⟩ = some (.slice qi ids.length ci)) := (HB2.out.cell HBX.out).trans HC0.out
          have HI2 := Lib.hid (HI1.out.below HB2.out)
          clear hP HOj HBj HTj HFj hcell
          go_wp2_with fail
          refine (idx j (by omega) _ _ qi ci ids HC2.out HI2.out).mono ?_
          rintro en w3 ⟨rfl, hB⟩
          have HB3 := Lib.hid (HB2.out.trans (hB.mono HB2.out.size))
          have HO3 := Lib.hid ((Mods.of_below hB (fun _ => False)).owns HO2.out (fun _ _ e => e))
          obtain ⟨q4, c4, w4, HCv, hrd, hb4, hk4⟩ := conv_bytes w3 s (by have := HS.out; omega)
          have HD4 := Lib.hid hrd
          have HB4 := Lib.hid (HB3.out.trans (hb4.mono HB3.out.size))
          have HO4 := Lib.hid ((Mods.of_below hb4 (fun _ => False)).owns HO3.out (fun _ _ e => e))
          have HT4 := Lib.hid (I.keeps HT1.out (Mods.of_below HB4.out (fun _ => False)) (fun _ _ h => h))
          have HK4 : Hid (∀ k, (Value.slice q4 s.size c4).ownBlock = some k → (Value.slice q2 ((enc ids L j).length + (bytesOf (numsOf s)).length) c2).ownBlock ≠ some k) := fun k hk e => by have := hk4 k hk; have := (HO3.out.lt k e).2; omega
          have HLn : Hid ((enc ids L j).length + (bytesOf (numsOf s)).length + (numsOf s).length ≤ 140737488350000) := by
            show _ ≤ _
            have h1 := numsOf_length s
            have h2 := bytesOf_length (numsOf s)
            have h3 := HS.out
            have h4 := HEN.out
            have h5 := groups_ten (x := (numsOf s).length) (by omega)
            omega
          clear hB HB2 HO2 HT2 HC2 HI2 HB3 HO3 hrd hb4 hk4
          go_wp2_with fail
          refine (Z.sect _ _ _ (idOf ids j) _ (numsOf s) _ HT4.out (owns_rebase HO4.out (fun _ _ => Nat.zero_le _)) (idOf_lt HO.out j) HD4.out (numsOf_lt s) HK4.out HLn.out).mono ?_
          rintro en w5 ⟨v5, rfl, hP⟩
          have HF4 : Hid (∀ k, (Value.slice q2 ((enc ids L j).length + (bytesOf (numsOf s)).length) c2).ownBlock = some k → w1.heap.size ≤ k) := fun k hk => (HO4.out.lt k hk).1
          have HB5 : Hid (Below w1.heap.size w1 w5) := HB4.out.trans (hP.below HB4.out.size HF4.out)
          have HO5 : Hid (w5.ownsRow w1.heap.size 5 1 v5 (enc ids L (j + 1)).length (u8s (enc ids L (j + 1)))) := by
            show World.ownsRow _ _ _ _ _ _ _
            have h := hP.made HB4.out.size HF4.out
            rw [HE.out, ← List.append_assoc, List.length_append, List.length_append]
            exact h
          clear hP HB4 HO4 HT4 HK4 HLn HF4 HD4 HCv HE
          go_wp2_with fail
          go_roundw
          case rel => exact ⟨j + 1, by omega, by go_num, HO5, HB5⟩
          case measure => simp [intOf]; omega
        · have hjl' : ¬ (j : Int) < (L.length : Int) := by omega
          obtain rfl : j = L.length := by omega
          have HEN : Hid ((enc ids L L.length).length ≤ 50000) := by
            show _ ≤ _
            have h1 := HCost.out
            have h2 := enc_length (ids := ids) (L := L) (k := L.length) (by omega)
            omega
          clear hj hjl
          have HTj := Lib.hid (I.keeps HT1.out (Mods.of_below HBj.out (fun _ => False)) (fun _ _ h => h))
          go_wp2_with fail
          refine (I.new _ (enc ids L L.length) _ HTj.out (Rd.of_owns HOj.out) (enc_lt HO.out L L.length) (by have := HEN.out; omega)).mono ?_
          rintro en w2 ⟨p, vr, rfl, hR, hp, hvr, hB⟩
          have HR2 := Lib.hid hR
          have HB2 := Lib.hid (HBj.out.trans (hB.mono HBj.out.size))
          have HP2 : Hid (w1.heap.size ≤ p ∧ ∀ k, vr.ownBlock = some k → w1.heap.size ≤ k) := ⟨by have := HBj.out.size; omega, fun k hk => by have := hvr k hk; have := HBj.out.size; omega⟩
          clear hR hp hvr hB HOj HBj HTj
          go_wp2_with fail
          go_loopw [57] (fun i wr => ∃ k : Nat, k ≤ L.length ∧ i = .int .i64 (k : Int) ∧ Hid (R wr p vr (enc ids L L.length) (enc ids L k).length 0) ∧ Hid (Below w1.heap.size w1 wr)) (fun i _ => L.length - (intOf i).toNat)
          case atStart => exact ⟨0, Nat.zero_le _, rfl, HR2, HB2⟩
          case round =>
            obtain ⟨k, hk, rfl, HRk, HBk⟩ := hrel
            by_cases hkl : k < L.length
            · have hkl' : (k : Int) < (L.length : Int) := by omega
              obtain ⟨bk, off, c', hv, hcell⟩ := HGet.out _ (HB0.out.trans (HBk.out.mono HB0.out.size)) k hkl
              simp only [Value.slice.injEq] at hv
              obtain ⟨rfl, _, rfl⟩ := hv
              have hc1 : cost L (k + 1) ≤ 2000 := Nat.le_trans (cost_le (by omega)) HCost.out
              have hs : (L.getD k ⟨#[]⟩).size < 2000 := by rw [cost] at hc1; omega
              have hnl : (numsOf (L.getD k ⟨#[]⟩)).length < 2000 := by rw [numsOf_length]; exact hs
              obtain ⟨rest, hsp⟩ := enc_split (ids := ids) (L := L) hkl
              have HE : Hid ((enc ids L (k + 1)).length = (enc ids L k).length + (bytesOf (numsOf (L.getD k ⟨#[]⟩))).length + (frameOf (idOf ids k) (numsOf (L.getD k ⟨#[]⟩))).length) := by show _ = _; rw [enc, piece, List.length_append, List.length_append]; omega
              have HOS : Hid (outString (enc ids L L.length) (enc ids L k).length 2000 = .ok (numsOf (L.getD k ⟨#[]⟩)) ((enc ids L k).length + (bytesOf (numsOf (L.getD k ⟨#[]⟩))).length)) := by
                show _ = _
                rw [hsp, List.append_assoc (enc ids L k ++ _)]
                exact outString_back _ _ _ (by omega) _ (by omega)
              have HOC : Hid (outSection (enc ids L L.length) ((enc ids L k).length + (bytesOf (numsOf (L.getD k ⟨#[]⟩))).length) (idOf ids k) = .ok (numsOf (L.getD k ⟨#[]⟩)) (enc ids L (k + 1)).length) := by
                show _ = _
                rw [hsp, HE.out]
                have h := outSection_back (enc ids L k ++ bytesOf (numsOf (L.getD k ⟨#[]⟩))) (numsOf (L.getD k ⟨#[]⟩)) rest (idOf ids k) (by omega)
                rw [List.length_append] at h
                exact h
              clear hc1 hs hnl hsp HE
              generalize L.getD k ⟨#[]⟩ = s at *
              go_wp2_with fail
              refine (I.string 2000 (by omega) HRk.out).mono ?_
              rintro en w3 ⟨hm, hg⟩
              rw [HOS.out] at hg
              obtain ⟨he, hR⟩ := hg
              simp only [strOf_numsOf] at he
              subst he
              have HR3 := Lib.hid hR
              have HB3 : Hid (Below w1.heap.size w1 w3) := HBk.out.trans (hm.below HBk.out.size (fun j hj e => by have := HP2.out.1; omega))
              have HC3 : Hid (w3.cell? ⟨w.heap.size, 0, none⟩ = some (.slice qi ids.length ci)) := (HB3.out.cell HBX.out).trans HC0.out
              have HI3 := Lib.hid (HI1.out.below HB3.out)
              clear hm hR HRk HBk HOS hcell
              go_wp2_with fail
              refine (idx k (by omega) _ _ qi ci ids HC3.out HI3.out).mono ?_
              rintro en w4 ⟨rfl, hB⟩
              have HR4 := Lib.hid (I.below HR3.out hB)
              have HB4 := Lib.hid (HB3.out.trans (hB.mono HB3.out.size))
              clear hB HR3 HB3 HC3 HI3
              go_wp2_with fail
              refine (I.sect (idOf ids k) (idOf_lt HO.out k) HR4.out).mono ?_
              rintro en w5 ⟨hm, hg⟩
              rw [HOC.out] at hg
              obtain ⟨⟨r5, rfl, hO5⟩, hR⟩ := hg
              obtain ⟨q5, c5, hr⟩ := (Rd.of_owns hO5).shape
              subst hr
              have HCv := (Rd.of_owns hO5).conv (P := Tryd.prog) 22 5 9 Tryd.underlying22 Tryd.underlying5 Tryd.underlying9
              rw [strOf_numsOf] at HCv
              have HR5 := Lib.hid hR
              have HB5 : Hid (Below w1.heap.size w1 w5) := HB4.out.trans (hm.below HB4.out.size (fun j hj e => by have := HP2.out.1; omega))
              clear hm hR hO5 HR4 HB4 HOC
              go_wp2_with fail
              go_roundw
              case rel => exact ⟨k + 1, by omega, by go_num, HR5, HB5⟩
              case measure => simp [intOf]; omega
            · have hkl' : ¬ (k : Int) < (L.length : Int) := by omega
              obtain rfl : k = L.length := by omega
              clear hk hkl
              go_wp2_with fail
              refine (HAL.out _ (I.tab HRk.out)).mono ?_
              rintro en w3 ⟨rfl, hB⟩
              have HR3 := Lib.hid (I.below HRk.out hB)
              have HB3 := Lib.hid (HBk.out.trans (hB.mono HBk.out.size))
              clear hB HRk HBk
              go_wp2_with fail
              refine (I.fin HR3.out).mono ?_
              rintro en w4 ⟨rfl, hB⟩
              rw [if_neg (fun h => Nat.lt_irrefl _ h.2)]
              have HR4 := Lib.hid (I.below HR3.out hB)
              have HB4 := Lib.hid (HB3.out.trans (hB.mono HB3.out.size))
              clear hB HR3 HB3
              go_wp2_with fail
              refine (I.pos HR4.out).mono ?_
              rintro en w5 ⟨rfl, hB⟩
              have HB5 := Lib.hid (HB0.out.trans ((HB4.out.trans (hB.mono HB4.out.size)).mono HB0.out.size))
              clear hB HR4 HB4
              go_wp2_with fail
              go_ret
              exact ⟨by simp, HB5.out⟩
end Go.Proofs.YtkgghlhmgolfbaaDoor.wireRoundTrip
