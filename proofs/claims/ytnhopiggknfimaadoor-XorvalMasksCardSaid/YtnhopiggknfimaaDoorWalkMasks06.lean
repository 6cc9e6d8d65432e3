/- Layer 6: XorvalMasks, walked over the interface. -/
import Derived.Test.YtnhopiggknfimaaDoorXorI
import Derived.Test.YtnhopiggknfimaaDoorCloneU
set_option linter.unusedVariables false
namespace Go.Proofs.YtnhopiggknfimaaDoor.xorvalMasks
open Go Go.RowKit
variable {G : Nat} {T : World → Prop}

def updI (f : Nat → Nat) (L : List Nat) (k : Nat) : List Nat := (L.take k).map f ++ L.drop k
theorem updI_zero (f : Nat → Nat) (L : List Nat) : updI f L 0 = L := by simp [updI]
theorem updI_all (f : Nat → Nat) (L : List Nat) : updI f L L.length = L.map f := by simp [updI]
theorem updI_length (f : Nat → Nat) (L : List Nat) (k : Nat) (h : k ≤ L.length) : (updI f L k).length = L.length := by simp [updI]; omega
theorem updI_get (f : Nat → Nat) (L : List Nat) (k : Nat) (h : k < L.length) : (updI f L k)[k]? = some L[k] := by
  have hl : ((L.take k).map f).length = k := by rw [List.length_map, List.length_take]; omega
  rw [updI, List.getElem?_append_right (by omega), hl, Nat.sub_self, List.getElem?_drop, Nat.add_zero, List.getElem?_eq_getElem h]
theorem updI_set (f : Nat → Nat) (L : List Nat) (k : Nat) (h : k < L.length) : (updI f L k).set k (f L[k]) = updI f L (k + 1) := by
  have hl : ((L.take k).map f).length = k := by rw [List.length_map, List.length_take]; omega
  rw [updI, List.set_append_right _ _ (by omega), hl, Nat.sub_self, List.drop_eq_getElem_cons h, List.set_cons_zero, updI, List.take_add_one, List.getElem?_eq_getElem h]
  show _ = List.map f (List.take k L ++ [L[k]]) ++ _
  rw [List.map_append, List.append_assoc]
  rfl
theorem u64s_set (l : List Nat) (i x : Nat) : (u64s l).set i (.int .u64 (x : Int)) = u64s (l.set i x) := by simp [u64s, List.map_set]
theorem u64s_upd (f : Nat → Nat) (L : List Nat) (k : Nat) (h : k < L.length) : (u64s (updI f L k))[k]? = some (.int .u64 (L[k] : Int)) := by rw [u64s, List.getElem?_map, updI_get f L k h]; rfl

/-- Both encodings are 64 bits and the same tail. -/
theorem tails (by_ : Nat) (l : List Nat) (hne : l ≠ []) : ∃ a b t : List Bool, a.length = 64 ∧ b.length = 64 ∧ encV l = a ++ t ∧ encV (l.map fun x => x ^^^ by_) = b ++ t := by
  cases l with
  | nil => exact absurd rfl hne
  | cons x l => exact ⟨_, _, encFromV none x l, fieldBits_length _ _, fieldBits_length _ _, rfl, encV_mask by_ x l⟩

set_option maxHeartbeats 8000000 in
theorem walk (I : VIf G T) (hal : ∀ w, T w → Calls Tryd.prog 9 #[] w fun e w' => e = .returned (.bool true) ∧ Below w.heap.size w w')
    (w : World) (hT : T w) (lv : Value) (l : List Nat) (ok : ∀ t ∈ l, in64u t) (hl : Rd w 1 lv l.length (u64s l)) (by_ : Nat) (hby : in64u by_) :
    Calls Tryd.prog 8 #[lv, .int .u64 (by_ : Int)] w fun e w' => e = .returned (.bool true) ∧ Below w.heap.size w w' := by
  have HT := Lib.hid hT; have HL := Lib.hid hl; have HO := Lib.hid ok; have HAL := Lib.hid hal; have HBy := Lib.hid hby
  have HLo := Lib.hid (u64s_lt hl)
  obtain ⟨pl, cl, hv⟩ := hl.shape
  subst hv
  clear hT hl ok hal hby
  by_cases hlt : (300 : Int) < (l.length : Int)
  · go_enter Tryd.func8, Tryd.ntmps8
    go_wp2_with fail
    refine (HAL.out _ HT.out).mono ?_
    rintro e w1 ⟨rfl, hB⟩
    go_wp2_with fail
    go_ret
    exact ⟨rfl, hB⟩
  by_cases h0 : l.length = 0
  · have hb0 : ((l.length : Int) == 0) = true := by rw [h0]; rfl
    have hi0 : (l.length : Int) = 0 := by omega
    clear h0 hlt
    go_enter Tryd.func8, Tryd.ntmps8
    go_wp2_with fail
    refine (HAL.out _ HT.out).mono ?_
    rintro e w1 ⟨rfl, hB⟩
    go_wp2_with fail
    go_ret
    exact ⟨rfl, hB⟩
  have hb0 : ((l.length : Int) == 0) = false := by rw [beq_eq_false_iff_ne]; omega
  have HN : Hid (l.length ≤ 300 ∧ 0 < l.length) := by show _ ∧ _; omega
  have HNe : Hid (l ≠ []) := fun e => h0 (by rw [e]; rfl)
  clear h0
  go_enter Tryd.func8, Tryd.ntmps8
  go_wp2_with fail
  refine (clone_u64 _ l w HL.out (by have := HN.out; omega)).mono ?_
  rintro e w1 ⟨r1, rfl, hM⟩
  have HM1 := Lib.hid hM.1
  have HB1 := Lib.hid hM.2
  obtain ⟨q1, c1, hv⟩ := (Rd.of_owns hM.1).shape
  subst hv
  clear hM
  go_wp2_with fail
  go_loopw [24] (fun i wr => ∃ k : Nat, k ≤ l.length ∧ i = .int .i64 (k : Int) ∧ Hid (wr.ownsRow w.heap.size 28 1 (.slice q1 l.length c1) l.length (u64s (updI (fun x => x ^^^ by_) l k))) ∧ Hid (Below w.heap.size w wr)) (fun i _ => l.length - (intOf i).toNat)
  case atStart => exact ⟨0, Nat.zero_le _, rfl, by show World.ownsRow _ _ _ _ _ _ _; rw [updI_zero]; exact HM1.out, HB1.out⟩
  case round =>
    obtain ⟨k, hk, rfl, HOk, HBk⟩ := hrel
    by_cases hkl : k < l.length
    · have hkl' : (k : Int) < (l.length : Int) := by omega
      obtain ⟨g, cap, hv⟩ : ∃ g cap, (Value.slice q1 l.length c1) = .slice (some ⟨g, 0, none⟩) l.length cap := by
        rcases owns_cases HOk.out with ⟨_, h0, _⟩ | ⟨g, cap, hv, _⟩
        · omega
        · exact ⟨g, cap, hv⟩
      simp only [Value.slice.injEq] at hv
      obtain ⟨rfl, _, rfl⟩ := hv
      obtain ⟨x, hx⟩ : ∃ x, l[k] = x := ⟨_, rfl⟩
      have hcell : wr.cell? ⟨g, k, none⟩ = some (.int .u64 (x : Int)) := by
        rw [HOk.out.cellAt k (by omega), ← hx]
        exact u64s_upd _ _ k hkl
      have hfro : wr.frozen? ⟨g, k, none⟩ = false := HOk.out.frozenAt _
      have hgw := (HOk.out.lt g rfl).1
      have HON : Hid ((wr.setCell ⟨g, k, none⟩ (.int .u64 ((x ^^^ by_ : Nat) : Int))).ownsRow w.heap.size 28 1 (.slice (some ⟨g, 0, none⟩) l.length c1) l.length (u64s (updI (fun x => x ^^^ by_) l (k + 1)))) := by
        show World.ownsRow _ _ _ _ _ _ _
        rw [← updI_set _ _ k hkl, hx, ← u64s_set]
        exact (HOk.out.stored k _).1
      have HBN : Hid (Below w.heap.size w (wr.setCell ⟨g, k, none⟩ (.int .u64 ((x ^^^ by_ : Nat) : Int)))) := HBk.out.trans ((Mods.set (fun j => j = g) _ _ _ (fun _ => rfl)).below HBk.out.size (fun j hj e => by omega))
      have HXo : Hid (bits BinOp.xor IntKind.u64 (x : Int) (by_ : Int) = ((x ^^^ by_ : Nat) : Int)) := bits_xor_u64_nat x by_ (hx ▸ HO.out _ (List.getElem_mem hkl)) HBy.out
      clear hx HOk HBk hgw
      go_wp2_with fail
      rw [HXo.out]
      go_round
      case rel => exact ⟨k + 1, by omega, by go_num, HON.out, HBN.out⟩
      case measure => simp [intOf]; omega
    · have hkl' : ¬ (k : Int) < (l.length : Int) := by omega
      obtain ⟨w2, hw2⟩ : ∃ x, x = wr := ⟨_, rfl⟩
      subst hw2
      have HOw : Hid (w2.ownsRow w.heap.size 28 1 (.slice q1 l.length c1) l.length (u64s (l.map fun x => x ^^^ by_))) := by
        show World.ownsRow _ _ _ _ _ _ _
        have h := HOk.out
        rw [show k = l.length by omega, updI_all] at h
        exact h
      have HMl : Hid ((l.map fun x => x ^^^ by_).length = l.length) := List.length_map _
      have HMr : Hid (Rd w2 1 (.slice q1 l.length c1) (l.map fun x => x ^^^ by_).length (u64s (l.map fun x => x ^^^ by_))) := by
        show Rd _ _ _ _ _
        rw [HMl.out]; exact Rd.of_owns HOw.out
      have HMo : Hid (∀ k, (Value.slice q1 l.length c1).ownBlock = some k → k < w2.heap.size) := fun k hk => (HOw.out.lt k hk).2
      have HMi : Hid (∀ t ∈ (l.map fun x => x ^^^ by_), in64u t) := fun t ht => by
        obtain ⟨x, _, rfl⟩ := List.mem_map.1 ht
        exact xor_lt64 (HO.out _ (by assumption)) HBy.out
      have HB2 := Lib.hid HBk.out
      have HTails := Lib.hid (tails by_ l HNe.out)
      clear HOk HBk hk hkl HM1 HB1 HOw
      generalize (l.map fun x => x ^^^ by_) = M at *
      have HT2 := Lib.hid (I.below HT.out HB2.out)
      go_wp2_with fail
      refine (new_writer _).mono ?_
      rintro e w3 ⟨rfl, hW, hB⟩
      have HA3 := Lib.hid (WrV.new I HT2.out hW hB)
      have HB3 := Lib.hid hB
      clear hW hB
      go_wp2_with fail
      refine (new_writer _).mono ?_
      rintro e w4 ⟨rfl, hW, hB⟩
      have HC4 := Lib.hid (WrV.new I HA3.out.tab hW hB)
      have HA4 := Lib.hid (HA3.out.below I hB)
      have HB4 := Lib.hid (HB3.out.trans (hB.mono HB3.out.size))
      have H34 : Hid (w2.heap.size < w3.heap.size ∧ w3.heap.size < w4.heap.size) := ⟨HA3.out.wr.blk.lt, hW.blk.lt⟩
      clear hW hB HA3 HB3
      have HPa := Lib.hid (I.putT HA4.out (HL.out.below (HB2.out.trans (HB4.out.mono HB2.out.size))) HO.out (fun hne k hk => Nat.lt_of_lt_of_le (HLo.out hne k hk) HB2.out.size) (by have := HN.out; simp; omega))
      go_wp2_with fail
      refine HPa.out.mono ?_
      rintro e w5 ⟨rfl, va, hW5, hB5, hU5⟩
      rw [List.nil_append] at hW5
      have HA5 := Lib.hid hW5
      have HB5 := Lib.hid (HB4.out.trans hB5)
      have HVa : Hid (∀ k, va.ownBlock = some k → w4.heap.size ≤ k) := fun k hk => by
        rcases hU5.fresh k hk with e | e
        · cases e
        · exact e
      have HC5 := Lib.hid (HC4.out.mods I hU5.mods (fun e => by
        rcases e with e | e
        · have := H34.out.1; omega
        · cases e) (fun k e => by cases e) (fun k hk e => by
        rcases e with e | e
        · have := HA4.out.low; omega
        · cases e))
      have H45 : Hid (w4.heap.size ≤ w5.heap.size) := hU5.mods.size
      clear hW5 hB5 hU5 HPa HA4 HC4 HB4
      have HPb := Lib.hid (I.putT HC5.out (HMr.out.below HB5.out) HMi.out (fun _ k hk => by have := HMo.out k hk; have := H34.out.1; omega) (by have := HN.out; have := HMl.out; simp; omega))
      go_wp2_with fail
      refine HPb.out.mono ?_
      rintro e w6 ⟨rfl, vb, hW6, hB6, hU6⟩
      rw [List.nil_append] at hW6
      have HC6 := Lib.hid hW6
      have HA6 := Lib.hid (HA5.out.mods I hU6.mods (fun e => by
        rcases e with e | e
        · have := H34.out.1; omega
        · cases e) (fun k hk e => by
        rcases e with e | e
        · have := HVa.out k hk; have := H34.out.2; omega
        · cases e) (fun k hk e => by
        rcases e with e | e
        · have := HC5.out.low; omega
        · cases e))
      have HB6 : Hid (Below w.heap.size w w6) := HB2.out.trans ((HB5.out.trans (hB6.mono (by have := H34.out.1; omega))).mono HB2.out.size)
      clear hW6 hB6 hU6 HPb HA5 HC5 HB5 HMr HMo HVa
      obtain ⟨A1, A2, tl, ha1, ha2, he1, he2⟩ := HTails.out
      have HD1 : Hid ((pack (encV l)).drop 8 = pack tl ∧ 8 ≤ (pack (encV l)).length) := by
        show _ ∧ _
        rw [he1]
        exact ⟨pack_drop _ _ 8 (by omega), by rw [pack_length, List.length_append]; omega⟩
      have HD2 : Hid ((pack (encV M)).drop 8 = pack tl ∧ 8 ≤ (pack (encV M)).length) := by
        show _ ∧ _
        rw [he2]
        exact ⟨pack_drop _ _ 8 (by omega), by rw [pack_length, List.length_append]; omega⟩
      have HEl : Hid ((encV l).length = (encV M).length) := by show _ = _; rw [he1, he2, List.length_append, List.length_append, ha1, ha2]
      have HSm : Hid ((encV l).length ≤ 1125899906842624 ∧ (encV M).length ≤ 1125899906842624) := by show _ ∧ _; have := encV_len l; have := encV_len M; have := HN.out; have := HMl.out; omega
      clear ha1 ha2 he1 he2 HTails
      go_wp2_with fail
      refine (wbytes _ _ _ _ HA6.out.wr HSm.out.1).mono ?_
      rintro e w7 ⟨r7, rfl, hM⟩
      have HX7 := Lib.hid (Rd.of_owns hM.1)
      have HA7 := Lib.hid (HA6.out.below I hM.2)
      have HC7 := Lib.hid (HC6.out.below I hM.2)
      have HB7 := Lib.hid (HB6.out.trans (hM.2.mono HB6.out.size))
      obtain ⟨q7, c7, hv7⟩ := (Rd.of_owns hM.1).shape
      subst hv7
      clear hM HA6 HC6 HB6
      go_wp2_with fail
      refine (wbytes _ _ _ _ HC7.out.wr HSm.out.2).mono ?_
      rintro e w8 ⟨r8, rfl, hM⟩
      have HY8 := Lib.hid (Rd.of_owns hM.1)
      have HX8 := Lib.hid (HX7.out.below hM.2)
      have HA8 := Lib.hid (HA7.out.below I hM.2)
      have HC8 := Lib.hid (HC7.out.below I hM.2)
      have HB8 := Lib.hid (HB7.out.trans (hM.2.mono HB7.out.size))
      obtain ⟨q8, c8, hv8⟩ := (Rd.of_owns hM.1).shape
      subst hv8
      clear hM HA7 HC7 HB7 HX7
      have hX : ¬ ((pack (encV l)).length : Int) < 8 := by have := HD1.out.2; omega
      have hY : ¬ ((pack (encV M)).length : Int) < 8 := by have := HD2.out.2; omega
      have HXd : Hid (∀ w', Below w8.heap.size w8 w' → Rd w' 1 (sliced q7 8 (pack (encV l)).length c7 1) (pack tl).length (u8s (pack tl))) := fun w' hb => by
        have h := (HX8.out.below hb).from 8 HD1.out.2
        have e : (u8s (pack (encV l))).drop (8 * 1) = u8s (pack tl) := by rw [u8s, ← List.map_drop, HD1.out.1]; rfl
        rw [e] at h
        have e2 : (pack (encV l)).length - 8 = (pack tl).length := by rw [← HD1.out.1, List.length_drop]
        rw [e2] at h
        exact h
      have HYd : Hid (∀ w', Below w8.heap.size w8 w' → Rd w' 1 (sliced q8 8 (pack (encV M)).length c8 1) (pack tl).length (u8s (pack tl))) := fun w' hb => by
        have h := (HY8.out.below hb).from 8 HD2.out.2
        have e : (u8s (pack (encV M))).drop (8 * 1) = u8s (pack tl) := by rw [u8s, ← List.map_drop, HD2.out.1]; rfl
        rw [e] at h
        have e2 : (pack (encV M)).length - 8 = (pack tl).length := by rw [← HD2.out.1, List.length_drop]
        rw [e2] at h
        exact h
      have HU1 : Hid (8 ≤ (pack (encV l)).length) := HD1.out.2
      have HU2 : Hid (8 ≤ (pack (encV M)).length) := HD2.out.2
      obtain ⟨sx, cx, hsx⟩ := (HXd.out w8 (Below.refl _ _)).shape
      obtain ⟨sy, cy, hsy⟩ := (HYd.out w8 (Below.refl _ _)).shape
      rw [hsx] at HXd
      rw [hsy] at HYd
      have HSx := Lib.hid hsx; have HSy := Lib.hid hsy
      clear HX8 HY8 HD1 HD2 hsx hsy
      go_wp2_with fail
      refine wp_region_takeH (fun w' => Below w8.heap.size w8 w') [0, 3, 5, 13] [0, 1, 2, 4, 3, 5, 6, 7, 8, 9, 11, 10, 12, 13, 14, 15] (by kernel_rfl) (by kernel_rfl) (by kernel_rfl) ?_ ?_ ?_
      · intro c a a' w hd h; exact ⟨hd ▸ h.1, h.2⟩
      · exact below_drewV w8
      simp only [taken, List.map_cons, List.map_nil, List.getElem?_cons_succ, List.getElem?_cons_zero, Option.getD_some]
      refine takeH_call rfl rfl (fun K' hK => ?_)
      go_wp2_with fail
      refine (HAL.out _ (I.below HA8.out.tab (below_drewV w8))).mono ?_
      rintro e w9 ⟨rfl, hb⟩
      have hb9 : Below w8.heap.size w8 w9 := (below_drewV w8).trans hb
      refine hK _ _ hb9 ?_
      clear hK K' hb
      have HB9 := Lib.hid hb9
      clear hb9
      repeat (first
        | (refine takeH_skip rfl ?_; simp only [Act.put, List.setIfInBounds_toArray, List.set_cons_succ, List.set_cons_zero])
        | (refine takeH_blind rfl rfl ?_; apply Exists.intro; refine ⟨fun w => ?_, ?_⟩; (go_simp; try with_reducible rfl); simp only [Act.put, List.setIfInBounds_toArray, List.set_cons_succ, List.set_cons_zero]))
      refine takeH_call rfl rfl (fun K' hK => ?_)
      go_wp2_with fail
      refine (wlen _ _ _ _ (HA8.out.wr.below HB9.out)).mono ?_
      rintro e wa ⟨rfl, rfl⟩
      refine hK _ _ HB9.out ?_
      clear hK K'
      refine takeH_call rfl rfl (fun K' hK => ?_)
      go_wp2_with fail
      refine (wlen _ _ _ _ (HC8.out.wr.below HB9.out)).mono ?_
      rintro e wa ⟨rfl, rfl⟩
      rw [← HEl.out]
      refine hK _ _ HB9.out ?_
      clear hK K'
      refine takeH_blind rfl rfl ?_; apply Exists.intro; refine ⟨fun w => ?_, ?_⟩; (go_simp; try with_reducible rfl); simp only [Act.put, List.setIfInBounds_toArray, List.set_cons_succ, List.set_cons_zero]
      refine takeH_blind rfl rfl ?_; apply Exists.intro; refine ⟨fun w => ?_, ?_⟩; (go_simp; try with_reducible rfl); simp only [Act.put, List.setIfInBounds_toArray, List.set_cons_succ, List.set_cons_zero]
      refine takeH_blind rfl rfl ?_; apply Exists.intro; refine ⟨fun w => ?_, ?_⟩; (go_simp; try with_reducible rfl); simp only [Act.put, List.setIfInBounds_toArray, List.set_cons_succ, List.set_cons_zero]
      refine takeH_blind rfl rfl ?_; apply Exists.intro; refine ⟨fun w => ?_, ?_⟩; (go_simp; try with_reducible rfl); simp only [Act.put, List.setIfInBounds_toArray, List.set_cons_succ, List.set_cons_zero]
      refine takeH_blind rfl rfl ?_; apply Exists.intro; refine ⟨fun w => ?_, ?_⟩; (go_simp; try with_reducible rfl); simp only [Act.put, List.setIfInBounds_toArray, List.set_cons_succ, List.set_cons_zero]
      refine takeH_read rfl rfl (.slice sx (pack tl).length cx) (fun w' _ => (exec_from Tryd.elemU8 w' q7 _ c7 8 HU1.out (.tmp 64) (.const (.int .i64 8)) rfl rfl rfl).trans (by rw [HSx.out])) ?_
      simp only [Act.put, List.setIfInBounds_toArray, List.set_cons_succ, List.set_cons_zero]
      refine takeH_read rfl rfl (.slice sy (pack tl).length cy) (fun w' _ => (exec_from Tryd.elemU8 w' q8 _ c8 8 HU2.out (.tmp 66) (.const (.int .i64 8)) rfl rfl rfl).trans (by rw [HSy.out])) ?_
      simp only [Act.put, List.setIfInBounds_toArray, List.set_cons_succ, List.set_cons_zero]
      refine takeH_call rfl rfl (fun K' hK => ?_)
      go_wp2_with fail
      refine (equal_any _ _ _ _ _ _ _ (HXd.out _ HB9.out) (HYd.out _ HB9.out) (pack_lt _) (pack_lt _)).mono ?_
      rintro e wa ⟨rfl, rfl⟩
      have hd : decide (pack tl = pack tl) = true := by simp
      rw [hd]
      refine hK _ _ HB9.out ?_
      clear hK K' hd
      repeat (first
        | (refine takeH_skip rfl ?_; simp only [Act.put, List.setIfInBounds_toArray, List.set_cons_succ, List.set_cons_zero])
        | (refine takeH_blind rfl rfl ?_; apply Exists.intro; refine ⟨fun w => ?_, ?_⟩; (go_simp; try with_reducible rfl); simp only [Act.put, List.setIfInBounds_toArray, List.set_cons_succ, List.set_cons_zero]))
      refine takeH_nil ?_
      have HBz := Lib.hid (HB8.out.trans (HB9.out.mono HB8.out.size))
      go_wp2_with fail
      go_ret
      exact ⟨rfl, HBz.out⟩
end Go.Proofs.YtnhopiggknfimaaDoor.xorvalMasks
