/- Layer 4: WireFindsBursts, walked, for whatever reader meets the interface. -/
import Derived.Test.YtkgghlhmgolfbaaDoorStep04
import Derived.Test.YtkgghlhmgolfbaaDoorRef04W
import Derived.Test.YtkgghlhmgolfbaaDoorRef03C
set_option linter.unusedVariables false
namespace Go.Proofs.YtkgghlhmgolfbaaDoor.wireFindsBursts
open Go Go.RowKit
variable {G : Nat} {T : World → Prop} {R : World → Nat → Value → List Nat → Nat → Int → Prop}

theorem outSection_bad {B : List Nat} (hB : ∀ c ∈ B, c < 256) {a id e : Nat} (h : outSection B a id = .bad e) : e ≠ 0 := by
  cases h0 : B[a]? with
  | none => rw [outSection, h0] at h; simp only [Out.bad.injEq] at h; omega
  | some c =>
    by_cases hc : c = id
    · subst hc
      rcases outSection_cases hB h0 with ⟨e', he, _, hr⟩ | ⟨x, to, _, _, _, _, hr⟩
      · rw [hr] at h; simp only [Out.bad.injEq] at h; omega
      · rw [hr] at h
        split at h
        · simp only [Out.bad.injEq] at h; omega
        · split at h
          · cases h
          · simp only [Out.bad.injEq] at h; omega
    · rw [outSection_other h0 hc] at h; simp only [Out.bad.injEq] at h; omega

/-- The two numbers, in their variable. -/
def Two32 (b : Nat) (f p : Nat) (w' : World) : Prop := w'.cell? ⟨b, 0, none⟩ = some (.int .u32 (f : Int)) ∧ w'.cell? ⟨b, 1, none⟩ = some (.int .u32 (p : Int)) ∧ True

set_option maxHeartbeats 8000000 in
theorem walk (I : WIf G T R) (hal : ∀ w, T w → Calls Tryd.prog 9 #[] w fun e w' => e = .returned (.bool true) ∧ Below w.heap.size w w')
    (w : World) (hT : T w) (id : Nat) (hid : id < 256) (v : Value) (l : List Nat) (ok : ∀ a ∈ l, a < 256) (hl : Rd w 1 v l.length (u8s l)) (hz : l.length * 1 ≤ 140737488351232) (f p : Nat) (hf : f < 4294967296) (hp : p < 4294967296) :
    Calls Tryd.prog 6 #[.int .u8 (id : Int), v, .agg #[.int .u32 (f : Int), .int .u32 (p : Int)]] w fun e w' => e = .returned (.bool true) ∧ Below w.heap.size w w' := by
  have HB0 : Hid (Below w.heap.size w (w.alloc (.cells #[.int .u32 (f : Int), .int .u32 (p : Int)] 53))) := (Below.refl _ _).alloc (Nat.le_refl _) _
  have HF0 : Hid (Two32 w.heap.size f p (w.alloc (.cells #[.int .u32 (f : Int), .int .u32 (p : Int)] 53))) := by
    have h := Blk.new w #[.int .u32 (f : Int), .int .u32 (p : Int)] 53
    exact ⟨by rw [h.cell]; rfl, by rw [h.cell]; rfl, trivial⟩
  have HT0 := Lib.hid (I.keeps hT (Mods.of_below HB0.out (fun _ => False)) (fun _ _ h => h))
  have HL0 := Lib.hid (hl.below HB0.out)
  have HO := Lib.hid ok
  have HAL := Lib.hid hal
  obtain ⟨q0, c, hv⟩ := hl.shape
  subst hv
  clear hl ok hT hal
  by_cases hlt : 2000 < l.length
  · have hlt' : (2000 : Int) < (l.length : Int) := by omega
    go_enter Tryd.func6, Tryd.ntmps6
    go_wp2_with fail
    refine (HAL.out _ HT0.out).mono ?_
    rintro en w1 ⟨rfl, hB⟩
    have HB1 := Lib.hid (HB0.out.trans (hB.mono HB0.out.size))
    go_wp2_with fail
    go_ret
    exact ⟨rfl, HB1.out⟩
  have hlt' : ¬ (2000 : Int) < (l.length : Int) := by omega
  go_enter Tryd.func6, Tryd.ntmps6
  go_wp2_with fail
  refine (ref_frame id _ l _ hid HL0.out HO.out (by omega)).mono ?_
  rintro en w1 ⟨r, rfl, hM⟩
  have hWl := frameOf_length id l
  have hten := groups_ten (x := l.length) (by omega)
  have HW8 := Lib.hid (frameOf_lt hid HO.out)
  have HOk : Hid (isCrc (frameOf id l) = true) := isCrc_withCrc _
  have HBk : Hid (outSection (frameOf id l) 0 id = .ok l (frameOf id l).length) := by
    have h := outSection_back [] l [] id (by omega)
    show _ = _
    simpa using h
  have HW0 : Hid ((frameOf id l)[0]? = some id) := by show _ = _; simp [frameOf, withCrc]
  generalize frameOf id l = W at *
  have hW0 : 4 ≤ W.length := by omega
  have hW1 : W.length ≤ 2100 := by omega
  clear hWl hten
  obtain ⟨q1, c1, hr⟩ := (Rd.of_owns hM.1).shape
  subst hr
  have HR1 := Lib.hid (Rd.of_owns hM.1)
  have HB1 := Lib.hid (HB0.out.trans (hM.2.mono HB0.out.size))
  have hbx : w.heap.size < (w.alloc (.cells #[.int .u32 (f : Int), .int .u32 (p : Int)] 53)).heap.size := by simp
  have HF1 : Hid (Two32 w.heap.size f p w1) := ⟨(hM.2.cell hbx).trans HF0.out.1, (hM.2.cell hbx).trans HF0.out.2.1, trivial⟩
  have HT1 := Lib.hid (I.keeps HT0.out (Mods.of_below hM.2 (fun _ => False)) (fun _ _ h => h))
  have HL1 := Lib.hid (HL0.out.below hM.2)
  clear hM hbx HF0 HT0 HL0 HB0
  obtain ⟨o, ho⟩ : ∃ o, f % (8 * W.length) = o := ⟨_, rfl⟩
  have hoW : o < 8 * W.length := ho ▸ Nat.mod_lt _ (by omega)
  have HI : Hid ((f : Int) % (8 * (W.length : Int)) = (o : Int)) := by show _ = _; rw [← ho]; simp
  have HD := Lib.hid (flip_found HW8.out hW0 HOk.out o p hoW)
  have HD8 := Lib.hid (flipTo_lt HW8.out o p 32)
  have HDl := Lib.hid (flipTo_length W o p 32)
  have hw8 : IntKind.i64.wrap (8 * (W.length : Int)) = 8 * (W.length : Int) := IntWalk.i64_in _ (by omega)
  have hwf : IntKind.i64.wrap (f : Int) = (f : Int) := IntWalk.i64_in _ (by omega)
  have h80 : ¬ 8 * (W.length : Int) = 0 := by omega
  have hm0 : (0 : Int) ≤ (f : Int) % (8 * (W.length : Int)) := Int.emod_nonneg _ (by omega)
  have htm : (f : Int).tmod (8 * (W.length : Int)) = (f : Int) % (8 * (W.length : Int)) := Int.tmod_eq_emod_of_nonneg (by omega)
  have hwo : IntKind.i64.wrap ((f : Int) % (8 * (W.length : Int))) = (f : Int) % (8 * (W.length : Int)) := by rw [HI.out]; exact IntWalk.i64_in _ (by omega)
  clear ho
  go_wp2_with fail
  have HC : Hid (∀ w', Two32 w.heap.size f p w' → w'.cell? ⟨w.heap.size, 0, none⟩ = some (.int .u32 (f : Int)) ∧ w'.cell? ⟨w.heap.size, 1, none⟩ = some (.int .u32 (p : Int)) ∧ True) := fun _ h => h
  refine wp_region_takeH (Two32 w.heap.size f p) [10] [0, 1, 2, 3, 4, 5, 6, 7, 8, 9, 10, 11] (by kernel_rfl) (by kernel_rfl) (by kernel_rfl) ?_ ?_ ?_
  · intro c a a' w hd h; exact ⟨hd ▸ h.1, h.2⟩
  · exact HF1.out
  simp only [taken, List.map_cons, List.map_nil, List.getElem?_cons_succ, List.getElem?_cons_zero, Option.getD_some]
  repeat (first
        | (refine takeH_skip rfl ?_; simp only [Act.put, List.setIfInBounds_toArray, List.set_cons_succ, List.set_cons_zero])
        | (refine takeH_blind rfl rfl ?_; apply Exists.intro; refine ⟨fun w => ?_, ?_⟩; (go_simp; try with_reducible rfl); simp only [Act.put, List.setIfInBounds_toArray, List.set_cons_succ, List.set_cons_zero])
        | (refine takeH_reads rfl rfl ?_; apply Exists.intro; refine ⟨fun w' hS => ?_, ?_⟩; (obtain ⟨d0, d1, d2⟩ := HC.out w' hS; go_simp; try with_reducible rfl); simp only [Act.put, List.setIfInBounds_toArray, List.set_cons_succ, List.set_cons_zero]))
  rw [HI.out]
  refine takeH_call rfl rfl (fun K' hK => ?_)
  go_wp2_with fail
  refine (ref_flip _ W o p w1.drew HR1.out HW8.out (by omega) hoW hp).mono ?_
  rintro en w2 ⟨r2, rfl, hM⟩
  have hB2 : Below w1.heap.size w1 w2 := ⟨hM.2.os, hM.2.tape, hM.2.output, hM.2.size, hM.2.block⟩
  have hb1 : w.heap.size < w1.heap.size := World.block_lt_of_cell? w1 _ HF1.out.1
  obtain ⟨g2, cp2, hr2⟩ : ∃ g cap, r2 = .slice (some ⟨g, 0, none⟩) W.length cap := by
    rcases owns_cases hM.1 with ⟨_, h0, _⟩ | ⟨g, cap, hv, _⟩
    · omega
    · exact ⟨g, cap, hv⟩
  subst hr2
  have HR2 := Lib.hid (HR1.out.below hB2)
  have HF2 := Lib.hid (Rd.of_owns hM.1)
  have HO2 := Lib.hid hM.1
  have HB2 := Lib.hid (HB1.out.trans (hB2.mono HB1.out.size))
  have HT2 := Lib.hid (I.keeps HT1.out (Mods.of_below hB2 (fun _ => False)) (fun _ _ h => h))
  have HL2 := Lib.hid (HL1.out.below hB2)
  have hS2 : Two32 w.heap.size f p w2 := ⟨(hB2.cell hb1).trans HF1.out.1, (hB2.cell hb1).trans HF1.out.2.1, trivial⟩
  refine hK _ _ hS2 ?_
  clear hK K' hM hB2 hS2 hb1 HR1 HB1 HF1 HT1 HL1 HI HC
  generalize flipTo W o p 32 = D at *
  repeat (first
        | (refine takeH_skip rfl ?_; simp only [Act.put, List.setIfInBounds_toArray, List.set_cons_succ, List.set_cons_zero])
        | (refine takeH_blind rfl rfl ?_; apply Exists.intro; refine ⟨fun w => ?_, ?_⟩; (go_simp; try with_reducible rfl); simp only [Act.put, List.setIfInBounds_toArray, List.set_cons_succ, List.set_cons_zero]))
  refine takeH_nil ?_
  have HRd2 : Hid (Rd w2 1 (.slice (some ⟨g2, 0, none⟩) W.length cp2) D.length (u8s D)) := by show Rd _ _ _ _ _; rw [HDl.out]; exact HF2.out
  have HDl2 : Hid (D.length ≤ 140737488355000) := by show _ ≤ _; rw [HDl.out]; omega
  go_wp2_with fail
  refine (I.new _ D _ HT2.out HRd2.out HD8.out HDl2.out).mono ?_
  rintro en w3 ⟨pr, vr, rfl, hR, hpr, hvr, hB⟩
  have HP3 := Lib.hid hR
  have HR3 := Lib.hid (HR2.out.below hB)
  have HF3 := Lib.hid (HRd2.out.below hB)
  have HL3 := Lib.hid (HL2.out.below hB)
  have HB3 := Lib.hid (HB2.out.trans (hB.mono HB2.out.size))
  have hD0 : 0 < D.length := by rw [HDl.out]; omega
  have hg2 : g2 < w2.heap.size := (HO2.out.lt g2 rfl).2
  have hcell : w3.cell? ⟨g2, 0, none⟩ = some (.int .u8 (D[0] : Nat)) := by
    rw [hB.cell hg2, HO2.out.cellAt 0 (by omega), u8s_get _ _ hD0]
  have hD08 : D[0] < 256 := HD8.out _ (List.getElem_mem hD0)
  have HG : Hid (D[0]? = some D[0]) := List.getElem?_eq_getElem hD0
  have HPr : Hid (w.heap.size ≤ pr ∧ w2.heap.size ≤ pr) := by show _ ∧ _; have := HB2.out.size; omega
  have HLk : Hid (u8s l ≠ [] → ∀ k, (Value.slice q0 l.length c).ownBlock = some k → k < w2.heap.size) := fun hne k hk => HL2.out.lt hne k hk
  have HPl : Hid (∀ k, (Value.slice q1 W.length c1).ownBlock = some k → k ≠ pr) := fun k hk => by
    have hne : u8s W ≠ [] := fun e => by
      have h : (u8s W).length = 0 := by rw [e]; rfl
      rw [u8s_length] at h
      omega
    have := HR2.out.lt hne k hk
    omega
  clear hR hpr hvr hB HR2 HRd2 HF2 HB2 HT2 HL2
  generalize D[0] = y0 at *
  go_wp2_with fail
  refine (I.sect y0 hD08 HP3.out).mono ?_
  rintro en w4 ⟨hm, hg⟩
  have hms : Below w.heap.size w3 w4 := hm.below HB3.out.size (fun k hk e => by have := HPr.out; omega)
  have HB4 := Lib.hid (HB3.out.trans hms)
  have HR4 := Lib.hid (HR3.out.mods hm (fun k hk e => HPl.out k hk e))
  have HF4 : Hid (Rd w4 1 (.slice (some ⟨g2, 0, none⟩) W.length cp2) D.length (u8s D)) := HF3.out.mods hm (fun k hk e => by have e' : g2 = k := Option.some.inj hk; have := HPr.out; omega)
  clear hms hcell HF3 HR3 HO2
  by_cases hEq : W = D
  · -- nothing has changed
    have hd0 : y0 = id := by
      have h1 := HG.out
      rw [← hEq, HW0.out] at h1
      exact (Option.some.inj h1).symm
    have ho : outSection D 0 y0 = .ok l D.length := by rw [hd0, ← hEq]; exact HBk.out
    rw [ho] at hg
    obtain ⟨⟨r, rfl, hO⟩, hR⟩ := hg
    obtain ⟨p5, c5, hr⟩ := (Rd.of_owns hO).shape
    subst hr
    have HR5 := Lib.hid hR
    have HG5 := Lib.hid (Rd.of_owns hO)
    have HT5 := Lib.hid (I.tab hR)
    have HL5 : Hid (Rd w4 1 (.slice q0 l.length c) l.length (u8s l)) := by
      show Rd _ _ _ _ _
      by_cases hl0 : l = []
      · subst hl0
        obtain ⟨p', c', hv, h1, h2, h3, h4, h5⟩ := HL3.out
        exact ⟨p', c', hv, h1, h2, h3, h4, fun ad _ j u hu => by simp [u8s] at hu⟩
      · exact HL3.out.mods hm (fun k hk e => by
          have hne : u8s l ≠ [] := fun e => hl0 (by cases l with | nil => rfl | cons x l => simp [u8s] at e)
          have := HLk.out hne k hk
          have := HPr.out
          omega)
    have HEq := Lib.hid hEq
    clear hR hO hm ho hd0 hEq
    go_wp2_with fail
    refine (equal_any _ _ _ _ W D _ HR4.out HF4.out HW8.out HD8.out).mono ?_
    rintro en w5 ⟨rfl, rfl⟩
    rw [decide_eq_true HEq.out]
    go_wp2_with fail
    refine (HAL.out _ HT5.out).mono ?_
    rintro en w5 ⟨rfl, hB⟩
    have HR6 := Lib.hid (I.below HR5.out hB)
    have HG6 := Lib.hid (HG5.out.below hB)
    have HL6 := Lib.hid (HL5.out.below hB)
    have HB6 := Lib.hid (HB4.out.trans (hB.mono HB4.out.size))
    clear hB HR5 HG5 HL5 HB4
    go_wp2_with fail
    refine (I.err HR6.out).mono ?_
    rintro en w7 ⟨rfl, hB⟩
    have HG7 := Lib.hid (HG6.out.below hB)
    have HL7 := Lib.hid (HL6.out.below hB)
    have HB7 := Lib.hid (HB6.out.trans (hB.mono HB6.out.size))
    clear hB HR6 HG6 HL6 HB6
    go_wp2_with fail
    refine (equal_any _ _ _ _ l l _ HG7.out HL7.out HO.out HO.out).mono ?_
    rintro en w8 ⟨rfl, rfl⟩
    rw [decide_eq_true rfl]
    go_wp2_with fail
    go_ret
    exact ⟨rfl, HB7.out⟩
  · have HNe : Hid (isCrc D = false) := by show _ = _; rw [HD.out, decide_eq_false hEq]
    have HDi := Lib.hid HDl.out
    cases ho : outSection D 0 y0 with
    | bad n =>
      have hn := outSection_bad HD8.out ho
      have hnb : ((n : Int) != 0) = true := by rw [bne_iff_ne]; omega
      rw [ho] at hg
      obtain ⟨rfl, hR⟩ := hg
      have HR5 := Lib.hid hR
      have HT5 := Lib.hid (I.tab hR)
      clear hR hm ho
      go_wp2_with fail
      refine (equal_any _ _ _ _ W D _ HR4.out HF4.out HW8.out HD8.out).mono ?_
      rintro en w5 ⟨rfl, rfl⟩
      rw [decide_eq_false hEq]
      go_wp2_with fail
      refine (HAL.out _ HT5.out).mono ?_
      rintro en w5 ⟨rfl, hB⟩
      have HR6 := Lib.hid (I.below HR5.out hB)
      have HB6 := Lib.hid (HB4.out.trans (hB.mono HB4.out.size))
      clear hB HR5 HB4
      go_wp2_with fail
      refine (I.err HR6.out).mono ?_
      rintro en w7 ⟨rfl, hB⟩
      have HB7 := Lib.hid (HB6.out.trans (hB.mono HB6.out.size))
      clear hB HR6 HB6
      go_wp2_with fail
      go_ret
      exact ⟨rfl, HB7.out⟩
    | ok g b =>
      have hb : ¬ (b : Int) = (W.length : Int) := fun e => by
        have e2 : b = D.length := by rw [HDi.out]; omega
        rw [e2] at ho
        have := outSection_whole HD8.out ho
        rw [HNe.out] at this
        cases this
      have hbb : ((b : Int) != (W.length : Int)) = true := by rw [bne_iff_ne]; exact hb
      rw [ho] at hg
      obtain ⟨⟨r, rfl, hO⟩, hR⟩ := hg
      obtain ⟨p5, c5, hr⟩ := (Rd.of_owns hO).shape
      subst hr
      have HR5 := Lib.hid hR
      have HT5 := Lib.hid (I.tab hR)
      clear hR hm ho hO
      go_wp2_with fail
      refine (equal_any _ _ _ _ W D _ HR4.out HF4.out HW8.out HD8.out).mono ?_
      rintro en w5 ⟨rfl, rfl⟩
      rw [decide_eq_false hEq]
      go_wp2_with fail
      refine (HAL.out _ HT5.out).mono ?_
      rintro en w5 ⟨rfl, hB⟩
      have HR6 := Lib.hid (I.below HR5.out hB)
      have HB6 := Lib.hid (HB4.out.trans (hB.mono HB4.out.size))
      clear hB HR5 HB4
      go_wp2_with fail
      refine (I.err HR6.out).mono ?_
      rintro en w7 ⟨rfl, hB⟩
      have HR7 := Lib.hid (I.below HR6.out hB)
      have HB7 := Lib.hid (HB6.out.trans (hB.mono HB6.out.size))
      clear hB HR6 HB6
      go_wp2_with fail
      refine (I.pos HR7.out).mono ?_
      rintro en w8 ⟨rfl, hB⟩
      have HB8 := Lib.hid (HB7.out.trans (hB.mono HB7.out.size))
      clear hB HR7 HB7
      go_wp2_with fail
      go_ret
      exact ⟨rfl, HB8.out⟩
end Go.Proofs.YtkgghlhmgolfbaaDoor.wireFindsBursts
