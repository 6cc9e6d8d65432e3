/- Layer 16: LayoutPrefixes, walked over the interface. -/
import Derived.Test.YtlgphgipfjlbfaaDoorMrg4
import Derived.Test.YtlgphgipfjlbfaaDoorMrg5
import Derived.Test.YtlgphgipfjlbfaaDoorMrg7
import Derived.Test.YtlgphgipfjlbfaaDoorMrg11
set_option linter.unusedVariables false
set_option linter.unusedSimpArgs false
namespace Go.Proofs.YtlgphgipfjlbfaaDoor.layoutPrefixes
open Go Go.RowKit
variable {G : Nat} {T : World → Prop}

set_option maxRecDepth 20000 in
set_option maxHeartbeats 16000000 in
theorem walk (I : LyIf G T) (hal : ∀ w, T w → Calls Tryd.prog 10 #[] w fun e w' => e = .returned (.bool true) ∧ Below w.heap.size w w')
    (w : World) (hT : T w) (bv : Value) (b : List Nat) (okb : ∀ z ∈ b, z < 256) (hb : Rd w 1 bv b.length (u8s b)) (hz : b.length * 1 ≤ 140737488351232) (f : Nat) (hf : f < 65536) (mv : Value) (m : List Nat) (okm : ∀ z ∈ m, z < 256) (hm : Rd w 1 mv m.length (u8s m)) (hzm : m.length * 1 ≤ 140737488351232) :
    Calls Tryd.prog 7 #[bv, .int .u16 (f : Int), mv] w fun e w' => e = .returned (.bool true) ∧ Below w.heap.size w w' := by
  have HG0 := Lib.hid (I.low hT); have HT := Lib.hid hT; have HAL := Lib.hid hal; have HL := Lib.hid hb; have HO := Lib.hid okb; have HM := Lib.hid hm; have HOm := Lib.hid okm
  have hb0 : (b.length : Int) ≤ 140737488351232 := by omega
  have hm0 : (m.length : Int) ≤ 140737488351232 := by omega
  obtain ⟨pb, cb, hv⟩ := hb.shape
  subst hv
  have HCb : Hid (b.length ≤ cb) := by obtain ⟨_, _, e, _, h, _⟩ := hb; cases e; exact h
  obtain ⟨pm, cm, hv⟩ := hm.shape
  subst hv
  clear hT hal hb okb hm okm hz hzm
  go_enter Tryd.func7, Tryd.ntmps7
  by_cases hbl : (10000 : Int) < (b.length : Int) + (m.length : Int)
  · go_wp2_with fail
    refine (HAL.out _ HT.out).mono ?_
    rintro e wz ⟨rfl, hB⟩
    have HBz := Lib.hid hB
    clear hB
    go_wp2_with fail
    go_ret
    exact ⟨rfl, HBz.out⟩
  · have HN : Hid (b.length + m.length ≤ 10000) := by show _ ≤ _; omega
    obtain ⟨k, hk⟩ : ∃ k, f % (b.length + 1) = k := ⟨_, rfl⟩
    have hkb : k ≤ b.length := by have := Nat.mod_lt f (show 0 < b.length + 1 by omega); omega
    have HKb := Lib.hid hkb
    have HI : Hid ((f : Int) % ((b.length : Int) + 1) = (k : Int)) := by show _ = _; rw [← hk]; simp
    have hwf : IntKind.i64.wrap (f : Int) = (f : Int) := IntWalk.i64_in _ (by omega)
    have hw1 : IntKind.i64.wrap ((b.length : Int) + 1) = (b.length : Int) + 1 := IntWalk.i64_in _ (by omega)
    have h10 : ¬ (b.length : Int) + 1 = 0 := by omega
    have hem : (0 : Int) ≤ (f : Int) % ((b.length : Int) + 1) := Int.emod_nonneg _ (by omega)
    have htm : (f : Int).tmod ((b.length : Int) + 1) = (f : Int) % ((b.length : Int) + 1) := Int.tmod_eq_emod_of_nonneg (by omega)
    have hwo : IntKind.i64.wrap ((f : Int) % ((b.length : Int) + 1)) = (f : Int) % ((b.length : Int) + 1) := by rw [HI.out]; exact IntWalk.i64_in _ (by omega)
    clear hk
    have HRp : Hid (∀ w, Rd w 1 (.slice pb b.length cb) b.length (u8s b) → Calls Tryd.prog 13 #[.slice pb b.length cb] w fun e w' => ∃ vs, e = .returned (.tuple #[.agg vs.toArray, .agg (natI (lay b).2.1).toArray, .int .i64 ((lay b).2.2 : Int)]) ∧ RdS w' vs (lay b).1 ∧ Below w.heap.size w w') := fun w h => ref_parse16 _ b w h HO.out (by have := HN.out; omega)
    have HSh := Lib.hid (lay_shape HO.out)
    have hOk : ∀ c ∈ b.take k, c < 256 := fun c hc => HO.out c (List.mem_of_mem_take hc)
    have hlk : (b.take k).length = k := by rw [List.length_take]; omega
    have HPk := Lib.hid (fun (v : Value) w h1 h2 => I.parse v (b.take k) w h1 h2 hOk (by rw [hlk]; have := HN.out; omega))
    have HCk := Lib.hid (fun (v : Value) w h1 h2 => I.certain v (b.take k) w h1 h2 hOk (by rw [hlk]; have := HN.out; omega))
    rw [hlk] at HPk HCk
    have HSk := Lib.hid (lay_shape hOk)
    have HPr : Hid ((lay b).2.2 = 0 → k < b.length → (lay (b.take k)).2.2 = 3) := fun h hk => lay_prefix HO.out h hk
    have HWh : Hid ((lay b).2.2 = 0 → ¬ k < b.length → (lay (b.take k)).2.2 = 0) := fun h hk => by rw [List.take_of_length_le (by omega)]; exact h
    have hOj : ∀ c ∈ b.take k ++ m, c < 256 := fun c hc => by
      rcases List.mem_append.1 hc with h | h
      · exact hOk c h
      · exact HOm.out c h
    have hlj : (b.take k ++ m).length = k + m.length := by rw [List.length_append, hlk]
    have HPj := Lib.hid (fun (v : Value) w h1 h2 => I.parse v (b.take k ++ m) w h1 h2 hOj (by rw [hlj]; have := HN.out; omega))
    rw [hlj] at HPj
    have HSj := Lib.hid (lay_shape hOj)
    have HCt : Hid ((lay (b.take k)).2.2 ≠ 0 → (lay (b.take k)).2.2 ≠ 3 → (lay (b.take k ++ m)).2.2 = (lay (b.take k)).2.2) := fun h0 h3 =>
      lay_certain hOj (m := k) (by rw [hlj]; omega) (by rw [List.take_left' hlk]) h0 h3
    have HUk : Hid (u8s (b.take k) = (u8s b).take k) := by show _ = _; simp [u8s, List.map_take]
    have HUj : Hid (u8s (b.take k ++ m) = u8s (b.take k) ++ u8s m) := by show _ = _; simp [u8s]
    have HLk : Hid ((u8s (b.take k)).length = k) := by show _ = _; rw [u8s_length, hlk]
    have hce : certE (b.take k) = if (lay (b.take k)).2.2 = 3 then 0 else (lay (b.take k)).2.2 := rfl
    obtain ⟨ec, hec⟩ : ∃ ec, certE (b.take k) = ec := ⟨_, rfl⟩
    rw [hec] at HCk hce
    have HCe := Lib.hid hce
    obtain ⟨⟨Sb, ab, F⟩, ho⟩ : ∃ o, lay b = o := ⟨_, rfl⟩
    rw [ho] at HRp HSh HPr HWh
    clear ho hce hec
    obtain ⟨⟨Sk, ak, E⟩, ho⟩ : ∃ o, lay (b.take k) = o := ⟨_, rfl⟩
    rw [ho] at HPk HSk HPr HWh HCt HCe
    clear ho
    obtain ⟨⟨Sj, aj, J⟩, ho⟩ : ∃ o, lay (b.take k ++ m) = o := ⟨_, rfl⟩
    rw [ho] at HPj HSj HCt
    clear ho hOk hlk hOj hlj
    obtain ⟨tk, htk⟩ : ∃ tk, b.take k = tk := ⟨_, rfl⟩
    rw [htk] at HPk HCk HUk HUj HLk HPj
    clear htk
    have HAb : Hid ((natI ab).length = 5) := by show _ = _; rw [natI_length]; exact HSh.out.2.1
    go_wp2_with fail
    rw [HI.out]
    clear HI hwf hw1 h10 hem htm hwo hbl hm0
    refine (HRp.out w HL.out).mono ?_
    rintro en w1 ⟨v1, rfl, hS, hB⟩
    have HB1 := Lib.hid hB; have HT1 := Lib.hid (I.below HT.out hB); have HL1 := Lib.hid (HL.out.below hB); have HM1 := Lib.hid (HM.out.below hB); have HS1 := Lib.hid hS
    have HV1 : Hid (v1.length = 4) := hS.len.trans HSh.out.1
    clear hB hS HT HL HM HRp
    have hki : (k : Int) ≤ (b.length : Int) := by omega
    go_wp2_with (first
      | (refine wpList_varA2 arrB arrI rfl rfl rfl rfl rfl _ _ rfl rfl _ _ rfl v1 (natI ab) rfl rfl HV1.out HS1.out.one rfl rfl HAb.out (one_natI ab) ?_; intro w2 hk hj hb hs)
      | (refine wpList_upto Tryd.elemU8 _ pb b.length cb k HKb.out HCb.out rfl _ _ rfl rfl rfl ?_))
    have HB2 : Hid (Below w.heap.size w w2) := HB1.out.trans (hb.mono HB1.out.size)
    have HT2 := Lib.hid (I.below HT1.out hb); have HL2 := Lib.hid (HL1.out.below hb); have HM2 := Lib.hid (HM1.out.below hb)
    clear hk hj hb hs HB1 HT1 HL1 HM1 HS1
    have HRk : Hid (∀ w', Rd w' 1 (.slice pb b.length cb) b.length (u8s b) → Rd w' 1 (.slice pb k cb) k (u8s tk)) := fun w' h => by
      have h2 := h.upto k HKb.out
      rw [Nat.mul_one, ← HUk.out] at h2
      exact h2
    refine (HPk.out _ w2 HT2.out (HRk.out w2 HL2.out)).mono ?_
    rintro en w3 ⟨v3, rfl, hS, hB⟩
    have HB3 := Lib.hid (HB2.out.trans (hB.mono HB2.out.size)); have HT3 := Lib.hid (I.below HT2.out hB); have HL3 := Lib.hid (HL2.out.below hB); have HM3 := Lib.hid (HM2.out.below hB); have HS3 := Lib.hid hS
    have HV3 : Hid (v3.length = 4) := hS.len.trans HSk.out.1
    clear hB hS HB2 HT2 HL2 HM2 HPk
    have HGl : Hid (G ≤ w.heap.size) := HG0.out
    by_cases hF : F = 0
    · subst hF
      by_cases hkl : k < b.length
      · have hE : E = 3 := HPr.out rfl hkl
        subst hE
        have hkli : (k : Int) < (b.length : Int) := by omega
        clear hkl
        have hc0 : ec = 0 := by have h := HCe.out; rw [if_pos rfl] at h; exact h
        subst hc0
        clear HCe HCt HPr HWh
        go_wp2_with (first
          | (refine wpList_varA arrS rfl rfl rfl _ _ rfl v3 rfl rfl HV3.out HS3.out.one ?_; intro w4 hk4 hb4 hs4)
          | (refine wpList_upto Tryd.elemU8 _ pb b.length cb k HKb.out HCb.out rfl _ _ rfl rfl rfl ?_))
        have HB4 : Hid (Below w.heap.size w w4) := HB3.out.trans (hb4.mono HB3.out.size)
        have HT4 := Lib.hid (I.below HT3.out hb4); have HL4 := Lib.hid (HL3.out.below hb4); have HM4 := Lib.hid (HM3.out.below hb4)
        clear hk4 hb4 hs4 HB3 HT3 HL3 HM3 HS3
        refine (HCk.out _ w4 HT4.out (HRk.out w4 HL4.out)).mono ?_
        rintro en w5 ⟨rfl, hB⟩
        have HB5 := Lib.hid (HB4.out.trans (hB.mono HB4.out.size)); have HT5 := Lib.hid (I.below HT4.out hB); have HL5 := Lib.hid (HL4.out.below hB); have HM5 := Lib.hid (HM4.out.below hB)
        clear hB HB4 HT4 HL4 HM4 HCk
        go_wp2_with (refine wpList_upto Tryd.elemU8 _ pb b.length cb k HKb.out HCb.out rfl _ _ rfl rfl rfl ?_)
        refine (bytes_clone _ k (u8s tk) w5 (HRk.out w5 HL5.out) (u8s_oneCell _) (by have := HKb.out; have := HN.out; omega)).mono ?_
        rintro en w6 ⟨r6, rfl, hM6⟩
        have hB := hM6.2
        have HB6 := Lib.hid (HB5.out.trans (hB.mono HB5.out.size)); have HT6 := Lib.hid (I.below HT5.out hB); have HM6 := Lib.hid (HM5.out.below hB)
        have HO6 : Hid (w6.ownsRow 0 5 1 r6 k (u8s tk)) := owns_rebase hM6.1 (fun _ _ => Nat.zero_le _)
        have HF6 : Hid (∀ j, r6.ownBlock = some j → w5.heap.size ≤ j) := fun j hj => (hM6.1.lt j hj).1
        have HZ6 : Hid ((k + m.length) * 1 ≤ 140737488355328 ∧ k + m.length ≤ maxLen) := by show _ ∧ _; unfold maxLen; have := HN.out; have := HKb.out; omega
        have HG6 : Hid (w.heap.size ≤ w5.heap.size) := HB5.out.size
        clear hB hM6 HB5 HT5 HL5 HM5 HRk
        go_wp2_with (at_builtin; refine wpList_extend Tryd.elemU8 _ _ _ _ _ _ _ HO6.out HM6.out (u8s_oneCell _) HZ6.out rfl _ _ rfl rfl rfl ?_)
        intro v7 w7 hown hmods hfr
        have hb7 : Below w.heap.size w6 w7 := hmods.below HB6.out.size (fun j hj e => by have := HF6.out j e; have := HG6.out; omega)
        have HB7 : Hid (Below w.heap.size w w7) := HB6.out.trans hb7
        have HT7 : Hid (T w7) := I.keeps HT6.out hmods (fun j hj e => by have := HF6.out j e; have := HGl.out; have := HG6.out; omega)
        have HP7 : Hid (Rd w7 1 v7 (k + m.length) (u8s (tk ++ m))) := by show Rd _ _ _ _ _; rw [HUj.out]; exact Rd.of_owns hown
        obtain ⟨p7, c7, hv⟩ := HP7.out.shape
        subst hv
        clear hown hmods hfr hb7 HB6 HT6 HM6 HO6 HF6 HZ6
        go_wp2_with fail
        refine (HPj.out _ w7 HT7.out HP7.out).mono ?_
        rintro en w8 ⟨v8, rfl, hS, hB⟩
        have HB8 := Lib.hid (HB7.out.trans (hB.mono HB7.out.size)); have HT8 := Lib.hid (I.below HT7.out hB); have HS8 := Lib.hid hS
        have HV8 : Hid (v8.length = 4) := hS.len.trans HSj.out.1
        clear hB hS HB7 HT7 HP7 HPj
        go_wp2_with (refine wpList_varA arrS rfl rfl rfl _ _ rfl v8 rfl rfl HV8.out HS8.out.one ?_; intro w9 hk9 hb9 hs9)
        have HB9 : Hid (Below w.heap.size w w9) := HB8.out.trans (hb9.mono HB8.out.size)
        have HT9 := Lib.hid (I.below HT8.out hb9)
        clear hk9 hb9 hs9 HB8 HT8 HS8
        try go_wp2_with fail
        refine (HAL.out _ HT9.out).mono ?_
        rintro en wz ⟨rfl, hB⟩
        have HBz := Lib.hid (HB9.out.trans (hB.mono HB9.out.size))
        clear hB HB9 HT9
        go_wp2_with fail
        go_ret
        exact ⟨rfl, HBz.out⟩
      · have hE : E = 0 := HWh.out rfl hkl
        subst hE
        have hkli : ¬ (k : Int) < (b.length : Int) := by omega
        clear hkl
        have hc0 : ec = 0 := by have h := HCe.out; rw [if_neg (by decide)] at h; exact h
        subst hc0
        clear HCe HCt HPr HWh
        go_wp2_with (first
          | (refine wpList_varA arrS rfl rfl rfl _ _ rfl v3 rfl rfl HV3.out HS3.out.one ?_; intro w4 hk4 hb4 hs4)
          | (refine wpList_upto Tryd.elemU8 _ pb b.length cb k HKb.out HCb.out rfl _ _ rfl rfl rfl ?_))
        have HB4 : Hid (Below w.heap.size w w4) := HB3.out.trans (hb4.mono HB3.out.size)
        have HT4 := Lib.hid (I.below HT3.out hb4); have HL4 := Lib.hid (HL3.out.below hb4); have HM4 := Lib.hid (HM3.out.below hb4)
        clear hk4 hb4 hs4 HB3 HT3 HL3 HM3 HS3
        refine (HCk.out _ w4 HT4.out (HRk.out w4 HL4.out)).mono ?_
        rintro en w5 ⟨rfl, hB⟩
        have HB5 := Lib.hid (HB4.out.trans (hB.mono HB4.out.size)); have HT5 := Lib.hid (I.below HT4.out hB); have HL5 := Lib.hid (HL4.out.below hB); have HM5 := Lib.hid (HM4.out.below hB)
        clear hB HB4 HT4 HL4 HM4 HCk
        go_wp2_with (refine wpList_upto Tryd.elemU8 _ pb b.length cb k HKb.out HCb.out rfl _ _ rfl rfl rfl ?_)
        refine (bytes_clone _ k (u8s tk) w5 (HRk.out w5 HL5.out) (u8s_oneCell _) (by have := HKb.out; have := HN.out; omega)).mono ?_
        rintro en w6 ⟨r6, rfl, hM6⟩
        have hB := hM6.2
        have HB6 := Lib.hid (HB5.out.trans (hB.mono HB5.out.size)); have HT6 := Lib.hid (I.below HT5.out hB); have HM6 := Lib.hid (HM5.out.below hB)
        have HO6 : Hid (w6.ownsRow 0 5 1 r6 k (u8s tk)) := owns_rebase hM6.1 (fun _ _ => Nat.zero_le _)
        have HF6 : Hid (∀ j, r6.ownBlock = some j → w5.heap.size ≤ j) := fun j hj => (hM6.1.lt j hj).1
        have HZ6 : Hid ((k + m.length) * 1 ≤ 140737488355328 ∧ k + m.length ≤ maxLen) := by show _ ∧ _; unfold maxLen; have := HN.out; have := HKb.out; omega
        have HG6 : Hid (w.heap.size ≤ w5.heap.size) := HB5.out.size
        clear hB hM6 HB5 HT5 HL5 HM5 HRk
        go_wp2_with (at_builtin; refine wpList_extend Tryd.elemU8 _ _ _ _ _ _ _ HO6.out HM6.out (u8s_oneCell _) HZ6.out rfl _ _ rfl rfl rfl ?_)
        intro v7 w7 hown hmods hfr
        have hb7 : Below w.heap.size w6 w7 := hmods.below HB6.out.size (fun j hj e => by have := HF6.out j e; have := HG6.out; omega)
        have HB7 : Hid (Below w.heap.size w w7) := HB6.out.trans hb7
        have HT7 : Hid (T w7) := I.keeps HT6.out hmods (fun j hj e => by have := HF6.out j e; have := HGl.out; have := HG6.out; omega)
        have HP7 : Hid (Rd w7 1 v7 (k + m.length) (u8s (tk ++ m))) := by show Rd _ _ _ _ _; rw [HUj.out]; exact Rd.of_owns hown
        obtain ⟨p7, c7, hv⟩ := HP7.out.shape
        subst hv
        clear hown hmods hfr hb7 HB6 HT6 HM6 HO6 HF6 HZ6
        go_wp2_with fail
        refine (HPj.out _ w7 HT7.out HP7.out).mono ?_
        rintro en w8 ⟨v8, rfl, hS, hB⟩
        have HB8 := Lib.hid (HB7.out.trans (hB.mono HB7.out.size)); have HT8 := Lib.hid (I.below HT7.out hB); have HS8 := Lib.hid hS
        have HV8 : Hid (v8.length = 4) := hS.len.trans HSj.out.1
        clear hB hS HB7 HT7 HP7 HPj
        go_wp2_with (refine wpList_varA arrS rfl rfl rfl _ _ rfl v8 rfl rfl HV8.out HS8.out.one ?_; intro w9 hk9 hb9 hs9)
        have HB9 : Hid (Below w.heap.size w w9) := HB8.out.trans (hb9.mono HB8.out.size)
        have HT9 := Lib.hid (I.below HT8.out hb9)
        clear hk9 hb9 hs9 HB8 HT8 HS8
        try go_wp2_with fail
        refine (HAL.out _ HT9.out).mono ?_
        rintro en wz ⟨rfl, hB⟩
        have HBz := Lib.hid (HB9.out.trans (hB.mono HB9.out.size))
        clear hB HB9 HT9
        go_wp2_with fail
        go_ret
        exact ⟨rfl, HBz.out⟩
    · by_cases hE0 : E = 0
      · subst hE0
        have hFi : ¬ (F : Int) = 0 := by omega
        have hFb : ((F : Int) == 0) = false := by rw [beq_eq_false_iff_ne]; exact hFi
        clear hF
        have hc0 : ec = 0 := by have h := HCe.out; rw [if_neg (by decide)] at h; exact h
        subst hc0
        clear HCe HCt HPr HWh
        go_wp2_with (first
          | (refine wpList_varA arrS rfl rfl rfl _ _ rfl v3 rfl rfl HV3.out HS3.out.one ?_; intro w4 hk4 hb4 hs4)
          | (refine wpList_upto Tryd.elemU8 _ pb b.length cb k HKb.out HCb.out rfl _ _ rfl rfl rfl ?_))
        have HB4 : Hid (Below w.heap.size w w4) := HB3.out.trans (hb4.mono HB3.out.size)
        have HT4 := Lib.hid (I.below HT3.out hb4); have HL4 := Lib.hid (HL3.out.below hb4); have HM4 := Lib.hid (HM3.out.below hb4)
        clear hk4 hb4 hs4 HB3 HT3 HL3 HM3 HS3
        refine (HCk.out _ w4 HT4.out (HRk.out w4 HL4.out)).mono ?_
        rintro en w5 ⟨rfl, hB⟩
        have HB5 := Lib.hid (HB4.out.trans (hB.mono HB4.out.size)); have HT5 := Lib.hid (I.below HT4.out hB); have HL5 := Lib.hid (HL4.out.below hB); have HM5 := Lib.hid (HM4.out.below hB)
        clear hB HB4 HT4 HL4 HM4 HCk
        go_wp2_with (refine wpList_upto Tryd.elemU8 _ pb b.length cb k HKb.out HCb.out rfl _ _ rfl rfl rfl ?_)
        refine (bytes_clone _ k (u8s tk) w5 (HRk.out w5 HL5.out) (u8s_oneCell _) (by have := HKb.out; have := HN.out; omega)).mono ?_
        rintro en w6 ⟨r6, rfl, hM6⟩
        have hB := hM6.2
        have HB6 := Lib.hid (HB5.out.trans (hB.mono HB5.out.size)); have HT6 := Lib.hid (I.below HT5.out hB); have HM6 := Lib.hid (HM5.out.below hB)
        have HO6 : Hid (w6.ownsRow 0 5 1 r6 k (u8s tk)) := owns_rebase hM6.1 (fun _ _ => Nat.zero_le _)
        have HF6 : Hid (∀ j, r6.ownBlock = some j → w5.heap.size ≤ j) := fun j hj => (hM6.1.lt j hj).1
        have HZ6 : Hid ((k + m.length) * 1 ≤ 140737488355328 ∧ k + m.length ≤ maxLen) := by show _ ∧ _; unfold maxLen; have := HN.out; have := HKb.out; omega
        have HG6 : Hid (w.heap.size ≤ w5.heap.size) := HB5.out.size
        clear hB hM6 HB5 HT5 HL5 HM5 HRk
        go_wp2_with (at_builtin; refine wpList_extend Tryd.elemU8 _ _ _ _ _ _ _ HO6.out HM6.out (u8s_oneCell _) HZ6.out rfl _ _ rfl rfl rfl ?_)
        intro v7 w7 hown hmods hfr
        have hb7 : Below w.heap.size w6 w7 := hmods.below HB6.out.size (fun j hj e => by have := HF6.out j e; have := HG6.out; omega)
        have HB7 : Hid (Below w.heap.size w w7) := HB6.out.trans hb7
        have HT7 : Hid (T w7) := I.keeps HT6.out hmods (fun j hj e => by have := HF6.out j e; have := HGl.out; have := HG6.out; omega)
        have HP7 : Hid (Rd w7 1 v7 (k + m.length) (u8s (tk ++ m))) := by show Rd _ _ _ _ _; rw [HUj.out]; exact Rd.of_owns hown
        obtain ⟨p7, c7, hv⟩ := HP7.out.shape
        subst hv
        clear hown hmods hfr hb7 HB6 HT6 HM6 HO6 HF6 HZ6
        go_wp2_with fail
        refine (HPj.out _ w7 HT7.out HP7.out).mono ?_
        rintro en w8 ⟨v8, rfl, hS, hB⟩
        have HB8 := Lib.hid (HB7.out.trans (hB.mono HB7.out.size)); have HT8 := Lib.hid (I.below HT7.out hB); have HS8 := Lib.hid hS
        have HV8 : Hid (v8.length = 4) := hS.len.trans HSj.out.1
        clear hB hS HB7 HT7 HP7 HPj
        go_wp2_with (refine wpList_varA arrS rfl rfl rfl _ _ rfl v8 rfl rfl HV8.out HS8.out.one ?_; intro w9 hk9 hb9 hs9)
        have HB9 : Hid (Below w.heap.size w w9) := HB8.out.trans (hb9.mono HB8.out.size)
        have HT9 := Lib.hid (I.below HT8.out hb9)
        clear hk9 hb9 hs9 HB8 HT8 HS8
        try go_wp2_with fail
        refine (HAL.out _ HT9.out).mono ?_
        rintro en wz ⟨rfl, hB⟩
        have HBz := Lib.hid (HB9.out.trans (hB.mono HB9.out.size))
        clear hB HB9 HT9
        go_wp2_with fail
        go_ret
        exact ⟨rfl, HBz.out⟩
      · by_cases hE3 : E = 3
        · subst hE3
          have hFi : ¬ (F : Int) = 0 := by omega
          have hFb : ((F : Int) == 0) = false := by rw [beq_eq_false_iff_ne]; exact hFi
          clear hF
          have hc0 : ec = 0 := by have h := HCe.out; rw [if_pos rfl] at h; exact h
          subst hc0
          clear HCe HCt HPr HWh
          go_wp2_with (first
            | (refine wpList_varA arrS rfl rfl rfl _ _ rfl v3 rfl rfl HV3.out HS3.out.one ?_; intro w4 hk4 hb4 hs4)
            | (refine wpList_upto Tryd.elemU8 _ pb b.length cb k HKb.out HCb.out rfl _ _ rfl rfl rfl ?_))
          have HB4 : Hid (Below w.heap.size w w4) := HB3.out.trans (hb4.mono HB3.out.size)
          have HT4 := Lib.hid (I.below HT3.out hb4); have HL4 := Lib.hid (HL3.out.below hb4); have HM4 := Lib.hid (HM3.out.below hb4)
          clear hk4 hb4 hs4 HB3 HT3 HL3 HM3 HS3
          refine (HCk.out _ w4 HT4.out (HRk.out w4 HL4.out)).mono ?_
          rintro en w5 ⟨rfl, hB⟩
          have HB5 := Lib.hid (HB4.out.trans (hB.mono HB4.out.size)); have HT5 := Lib.hid (I.below HT4.out hB); have HL5 := Lib.hid (HL4.out.below hB); have HM5 := Lib.hid (HM4.out.below hB)
          clear hB HB4 HT4 HL4 HM4 HCk
          go_wp2_with (refine wpList_upto Tryd.elemU8 _ pb b.length cb k HKb.out HCb.out rfl _ _ rfl rfl rfl ?_)
          refine (bytes_clone _ k (u8s tk) w5 (HRk.out w5 HL5.out) (u8s_oneCell _) (by have := HKb.out; have := HN.out; omega)).mono ?_
          rintro en w6 ⟨r6, rfl, hM6⟩
          have hB := hM6.2
          have HB6 := Lib.hid (HB5.out.trans (hB.mono HB5.out.size)); have HT6 := Lib.hid (I.below HT5.out hB); have HM6 := Lib.hid (HM5.out.below hB)
          have HO6 : Hid (w6.ownsRow 0 5 1 r6 k (u8s tk)) := owns_rebase hM6.1 (fun _ _ => Nat.zero_le _)
          have HF6 : Hid (∀ j, r6.ownBlock = some j → w5.heap.size ≤ j) := fun j hj => (hM6.1.lt j hj).1
          have HZ6 : Hid ((k + m.length) * 1 ≤ 140737488355328 ∧ k + m.length ≤ maxLen) := by show _ ∧ _; unfold maxLen; have := HN.out; have := HKb.out; omega
          have HG6 : Hid (w.heap.size ≤ w5.heap.size) := HB5.out.size
          clear hB hM6 HB5 HT5 HL5 HM5 HRk
          go_wp2_with (at_builtin; refine wpList_extend Tryd.elemU8 _ _ _ _ _ _ _ HO6.out HM6.out (u8s_oneCell _) HZ6.out rfl _ _ rfl rfl rfl ?_)
          intro v7 w7 hown hmods hfr
          have hb7 : Below w.heap.size w6 w7 := hmods.below HB6.out.size (fun j hj e => by have := HF6.out j e; have := HG6.out; omega)
          have HB7 : Hid (Below w.heap.size w w7) := HB6.out.trans hb7
          have HT7 : Hid (T w7) := I.keeps HT6.out hmods (fun j hj e => by have := HF6.out j e; have := HGl.out; have := HG6.out; omega)
          have HP7 : Hid (Rd w7 1 v7 (k + m.length) (u8s (tk ++ m))) := by show Rd _ _ _ _ _; rw [HUj.out]; exact Rd.of_owns hown
          obtain ⟨p7, c7, hv⟩ := HP7.out.shape
          subst hv
          clear hown hmods hfr hb7 HB6 HT6 HM6 HO6 HF6 HZ6
          go_wp2_with fail
          refine (HPj.out _ w7 HT7.out HP7.out).mono ?_
          rintro en w8 ⟨v8, rfl, hS, hB⟩
          have HB8 := Lib.hid (HB7.out.trans (hB.mono HB7.out.size)); have HT8 := Lib.hid (I.below HT7.out hB); have HS8 := Lib.hid hS
          have HV8 : Hid (v8.length = 4) := hS.len.trans HSj.out.1
          clear hB hS HB7 HT7 HP7 HPj
          go_wp2_with (refine wpList_varA arrS rfl rfl rfl _ _ rfl v8 rfl rfl HV8.out HS8.out.one ?_; intro w9 hk9 hb9 hs9)
          have HB9 : Hid (Below w.heap.size w w9) := HB8.out.trans (hb9.mono HB8.out.size)
          have HT9 := Lib.hid (I.below HT8.out hb9)
          clear hk9 hb9 hs9 HB8 HT8 HS8
          try go_wp2_with fail
          refine (HAL.out _ HT9.out).mono ?_
          rintro en wz ⟨rfl, hB⟩
          have HBz := Lib.hid (HB9.out.trans (hB.mono HB9.out.size))
          clear hB HB9 HT9
          go_wp2_with fail
          go_ret
          exact ⟨rfl, HBz.out⟩
        · have hFi : ¬ (F : Int) = 0 := by omega
          have hFb : ((F : Int) == 0) = false := by rw [beq_eq_false_iff_ne]; exact hFi
          clear hF
          have hcE : ec = E := by have h := HCe.out; rw [if_neg hE3] at h; exact h
          subst hcE
          have hJ : J = ec := HCt.out hE0 hE3
          subst hJ
          have hEi : ¬ (J : Int) = 0 := by omega
          have hEb : ((J : Int) == 0) = false := by rw [beq_eq_false_iff_ne]; exact hEi
          have hEj : ¬ (J : Int) = 3 := by omega
          have hEc : ((J : Int) == 3) = false := by rw [beq_eq_false_iff_ne]; exact hEj
          clear HCe HCt HPr HWh hE0 hE3
          go_wp2_with (first
            | (refine wpList_varA arrS rfl rfl rfl _ _ rfl v3 rfl rfl HV3.out HS3.out.one ?_; intro w4 hk4 hb4 hs4)
            | (refine wpList_upto Tryd.elemU8 _ pb b.length cb k HKb.out HCb.out rfl _ _ rfl rfl rfl ?_))
          have HB4 : Hid (Below w.heap.size w w4) := HB3.out.trans (hb4.mono HB3.out.size)
          have HT4 := Lib.hid (I.below HT3.out hb4); have HL4 := Lib.hid (HL3.out.below hb4); have HM4 := Lib.hid (HM3.out.below hb4)
          clear hk4 hb4 hs4 HB3 HT3 HL3 HM3 HS3
          refine (HCk.out _ w4 HT4.out (HRk.out w4 HL4.out)).mono ?_
          rintro en w5 ⟨rfl, hB⟩
          have HB5 := Lib.hid (HB4.out.trans (hB.mono HB4.out.size)); have HT5 := Lib.hid (I.below HT4.out hB); have HL5 := Lib.hid (HL4.out.below hB); have HM5 := Lib.hid (HM4.out.below hB)
          clear hB HB4 HT4 HL4 HM4 HCk
          go_wp2_with (refine wpList_upto Tryd.elemU8 _ pb b.length cb k HKb.out HCb.out rfl _ _ rfl rfl rfl ?_)
          refine (bytes_clone _ k (u8s tk) w5 (HRk.out w5 HL5.out) (u8s_oneCell _) (by have := HKb.out; have := HN.out; omega)).mono ?_
          rintro en w6 ⟨r6, rfl, hM6⟩
          have hB := hM6.2
          have HB6 := Lib.hid (HB5.out.trans (hB.mono HB5.out.size)); have HT6 := Lib.hid (I.below HT5.out hB); have HM6 := Lib.hid (HM5.out.below hB)
          have HO6 : Hid (w6.ownsRow 0 5 1 r6 k (u8s tk)) := owns_rebase hM6.1 (fun _ _ => Nat.zero_le _)
          have HF6 : Hid (∀ j, r6.ownBlock = some j → w5.heap.size ≤ j) := fun j hj => (hM6.1.lt j hj).1
          have HZ6 : Hid ((k + m.length) * 1 ≤ 140737488355328 ∧ k + m.length ≤ maxLen) := by show _ ∧ _; unfold maxLen; have := HN.out; have := HKb.out; omega
          have HG6 : Hid (w.heap.size ≤ w5.heap.size) := HB5.out.size
          clear hB hM6 HB5 HT5 HL5 HM5 HRk
          go_wp2_with (at_builtin; refine wpList_extend Tryd.elemU8 _ _ _ _ _ _ _ HO6.out HM6.out (u8s_oneCell _) HZ6.out rfl _ _ rfl rfl rfl ?_)
          intro v7 w7 hown hmods hfr
          have hb7 : Below w.heap.size w6 w7 := hmods.below HB6.out.size (fun j hj e => by have := HF6.out j e; have := HG6.out; omega)
          have HB7 : Hid (Below w.heap.size w w7) := HB6.out.trans hb7
          have HT7 : Hid (T w7) := I.keeps HT6.out hmods (fun j hj e => by have := HF6.out j e; have := HGl.out; have := HG6.out; omega)
          have HP7 : Hid (Rd w7 1 v7 (k + m.length) (u8s (tk ++ m))) := by show Rd _ _ _ _ _; rw [HUj.out]; exact Rd.of_owns hown
          obtain ⟨p7, c7, hv⟩ := HP7.out.shape
          subst hv
          clear hown hmods hfr hb7 HB6 HT6 HM6 HO6 HF6 HZ6
          go_wp2_with fail
          refine (HPj.out _ w7 HT7.out HP7.out).mono ?_
          rintro en w8 ⟨v8, rfl, hS, hB⟩
          have HB8 := Lib.hid (HB7.out.trans (hB.mono HB7.out.size)); have HT8 := Lib.hid (I.below HT7.out hB); have HS8 := Lib.hid hS
          have HV8 : Hid (v8.length = 4) := hS.len.trans HSj.out.1
          clear hB hS HB7 HT7 HP7 HPj
          go_wp2_with (refine wpList_varA arrS rfl rfl rfl _ _ rfl v8 rfl rfl HV8.out HS8.out.one ?_; intro w9 hk9 hb9 hs9)
          have HB9 : Hid (Below w.heap.size w w9) := HB8.out.trans (hb9.mono HB8.out.size)
          have HT9 := Lib.hid (I.below HT8.out hb9)
          clear hk9 hb9 hs9 HB8 HT8 HS8
          try go_wp2_with fail
          refine (HAL.out _ HT9.out).mono ?_
          rintro en wz ⟨rfl, hB⟩
          have HBz := Lib.hid (HB9.out.trans (hB.mono HB9.out.size))
          clear hB HB9 HT9
          go_wp2_with fail
          go_ret
          exact ⟨rfl, HBz.out⟩
end Go.Proofs.YtlgphgipfjlbfaaDoor.layoutPrefixes
