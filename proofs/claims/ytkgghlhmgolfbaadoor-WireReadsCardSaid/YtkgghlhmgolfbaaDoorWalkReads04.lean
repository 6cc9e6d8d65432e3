/- Layer 4: WireReads, walked, for whatever reader meets the interface. -/
import Derived.Test.YtkgghlhmgolfbaaDoorStep04B
import Derived.Test.YtkgghlhmgolfbaaDoorAct04
set_option linter.unusedVariables false
namespace Go.Proofs.YtkgghlhmgolfbaaDoor.wireReads
open Go Go.RowKit
variable {G : Nat} {T : World → Prop} {R : World → Nat → Value → List Nat → Nat → Int → Prop}

theorem rd_act_cell {w : World} {v : Value} {l : List (Int × Int × Nat × Nat)} (h : Rd w 4 v l.length (l.flatMap actCells)) (j : Nat) (hj : j < l.length) :
    ∃ b off c, v = .slice (some ⟨b, off, none⟩) l.length c ∧ w.cell? ⟨b, off + j * 4, none⟩ = some (.int .i64 l[j].1) ∧ w.cell? ⟨b, off + j * 4 + 1, none⟩ = some (.int .i64 l[j].2.1) ∧ w.cell? ⟨b, off + j * 4 + 2, none⟩ = some (.int .u64 (l[j].2.2.1 : Nat)) ∧ w.cell? ⟨b, off + j * 4 + 3, none⟩ = some (.int .u8 (l[j].2.2.2 : Nat)) ∧ b < w.heap.size := by
  have hlen := flatMap_len actCells l (sz := 4) (fun a _ => rfl)
  have hg : ∀ (l : List (Int × Int × Nat × Nat)) (j : Nat) (hj : j < l.length), (l.flatMap actCells)[j * 4]? = some (.int .i64 l[j].1) ∧ (l.flatMap actCells)[j * 4 + 1]? = some (.int .i64 l[j].2.1) ∧ (l.flatMap actCells)[j * 4 + 2]? = some (.int .u64 (l[j].2.2.1 : Nat)) ∧ (l.flatMap actCells)[j * 4 + 3]? = some (.int .u8 (l[j].2.2.2 : Nat)) := by
    intro l
    induction l with
    | nil => intro j hj; simp at hj
    | cons a l ih =>
      intro j hj
      rw [List.flatMap_cons]
      cases j with
      | zero => exact ⟨rfl, rfl, rfl, rfl⟩
      | succ j =>
        have := ih j (by simpa using hj)
        simp only [actCells, List.getElem_cons_succ]
        rw [show (j + 1) * 4 = j * 4 + 4 from by omega]
        exact this
  obtain ⟨b, off, c, hv, _, _, hc⟩ := h.at (fun e => by rw [e] at hlen; simp at hlen; omega)
  obtain ⟨g0, g1, g2, g3⟩ := hg l j hj
  have h0 := hc _ _ g0
  exact ⟨b, off, c, hv, h0, (by have := hc _ _ g1; rwa [← Nat.add_assoc] at this), (by have := hc _ _ g2; rwa [← Nat.add_assoc] at this), (by have := hc _ _ g3; rwa [← Nat.add_assoc] at this), World.block_lt_of_cell? w _ h0⟩

set_option maxHeartbeats 4000000 in
theorem walk (I : WIf G T R) (hal : ∀ w, T w → Calls Tryd.prog 9 #[] w fun e w' => e = .returned (.bool true) ∧ Below w.heap.size w w')
    (w : World) (hT : T w) (v : Value) (l : List Nat) (ok : ∀ a ∈ l, a < 256) (hl : Rd w 1 v l.length (u8s l)) (hz : l.length * 1 ≤ 140737488351232)
    (va : Value) (acts : List (Int × Int × Nat × Nat)) (oka : ∀ a ∈ acts, actOk a) (hla : Rd w 4 va acts.length (acts.flatMap actCells)) (hza : acts.length * 32 ≤ 140737488351232) :
    Calls Tryd.prog 4 #[v, va] w fun e w' => e = .returned (.bool true) ∧ Below w.heap.size w w' := by
  have HT := Lib.hid hT
  have HL := Lib.hid hl
  have HO := Lib.hid ok
  have HA := Lib.hid (rd_act_cell hla)
  have HOA := Lib.hid oka
  have HAL := Lib.hid hal
  obtain ⟨q0, c, hv⟩ := hl.shape
  subst hv
  obtain ⟨qa, ca, hva⟩ := hla.shape
  subst hva
  clear hl ok hT hla oka hal
  by_cases hlt : 2000 < l.length
  · have hlt' : (2000 : Int) < (l.length : Int) := by omega
    go_enter Tryd.func4, Tryd.ntmps4
    go_wp2_with fail
    refine (HAL.out _ HT.out).mono ?_
    rintro e w1 ⟨rfl, hB⟩
    go_wp2_with fail
    go_ret
    exact ⟨rfl, hB⟩
  by_cases hla : 100 < acts.length
  · have hlt' : ¬ (2000 : Int) < (l.length : Int) := by omega
    have hla' : (100 : Int) < (acts.length : Int) := by omega
    go_enter Tryd.func4, Tryd.ntmps4
    go_wp2_with fail
    refine (HAL.out _ HT.out).mono ?_
    rintro e w1 ⟨rfl, hB⟩
    go_wp2_with fail
    go_ret
    exact ⟨rfl, hB⟩
  have hlt' : ¬ (2000 : Int) < (l.length : Int) := by omega
  have hla' : ¬ (100 : Int) < (acts.length : Int) := by omega
  go_enter Tryd.func4, Tryd.ntmps4
  go_wp2_with fail
  refine (I.new _ l _ HT.out HL.out HO.out (by omega)).mono ?_
  rintro e w1 ⟨p, vr, rfl, hR, hp, hvr, hB⟩
  have HR1 := Lib.hid hR
  have HB1 := Lib.hid hB
  have HB2 : Hid (Below w.heap.size w (w1.alloc (.cells #[] 5))) := HB1.out.alloc HB1.out.size _
  have HL2 := Lib.hid (HL.out.below HB2.out)
  have HR2 := Lib.hid (I.below HR1.out ((Below.refl _ w1).alloc (Nat.le_refl _) (.cells #[] 5)))
  have HO2 : Hid ((w1.alloc (.cells #[] 5)).ownsRow 0 5 1 (.slice (some ⟨w1.heap.size, 0, none⟩) 0 0) 0 []) := World.ownsRow_lit (base := 0) w1 #[] 0 (Nat.zero_le _) (by simp [maxLen]) (by simp)
  have HM2 : Hid ((0 + l.length) * 1 ≤ 140737488355328 ∧ 0 + l.length ≤ maxLen) := by show _ ∧ _; unfold maxLen; omega
  have hpl : p < w1.heap.size := I.lt hR
  clear hR hB
  go_wp2_with (at_builtin; refine wpList_extend Tryd.elemU8 _ _ _ _ _ _ _ HO2.out HL2.out (u8s_oneCell _) HM2.out rfl _ _ rfl rfl rfl ?_)
  intro v3 w3 hown hmods hfr
  obtain ⟨p3, c3, hv3⟩ := (Rd.of_owns hown).shape
  subst hv3
  have hs3 : w1.heap.size + 1 ≤ w3.heap.size := by have := hmods.size; simpa using this
  have HF3 : Hid (∀ k, (Value.slice p3 l.length c3).ownBlock = some k → w1.heap.size ≤ k ∧ k < w3.heap.size) := fun k hk => by
    refine ⟨?_, (hown.lt k hk).2⟩
    rcases hfr k hk with e | e
    · have e' : w1.heap.size = k := Option.some.inj e
      omega
    · first | omega | (simp at e; omega)
  have HB3 : Hid (Below w.heap.size w w3) := HB2.out.trans (hmods.below HB2.out.size (fun k hk e => by have e' : w1.heap.size = k := Option.some.inj e; have := HB1.out.size; omega))
  have hvl : ∀ k, vr.ownBlock = some k → w.heap.size ≤ k := hvr
  have HR3 : Hid (R w3 p vr l 0 0) := I.mods HR2.out hmods (fun e => by have e' : w1.heap.size = p := Option.some.inj e; omega) (fun k hk e => by have e' : w1.heap.size = k := Option.some.inj e; have := I.vlt HR1.out k hk; omega) (fun k hk e => by have e' : w1.heap.size = k := Option.some.inj e; have := I.low (I.tab HR1.out); omega)
  have HRd3 := Lib.hid (Rd.of_owns hown)
  clear hown hmods hfr HO2 HL2 HR2 HB2
  have HB4 : Hid (Below w.heap.size w (w3.alloc (.cells #[.slice p3 l.length c3, .int .i64 0, .int .i64 0] 38))) := HB3.out.alloc HB3.out.size _
  have hnew : Below w3.heap.size w3 (w3.alloc (.cells #[.slice p3 l.length c3, .int .i64 0, .int .i64 0] 38)) := (Below.refl _ _).alloc (Nat.le_refl _) _
  have HS4 : Hid (Two G R (w3.alloc (.cells #[.slice p3 l.length c3, .int .i64 0, .int .i64 0] 38)) p w3.heap.size vr (.slice p3 l.length c3) l 0 0) :=
    ⟨I.below HR3.out hnew, ⟨Blk.new w3 #[.slice p3 l.length c3, .int .i64 0, .int .i64 0] _, HRd3.out.below hnew, fun k hk => by have := HF3.out k hk; omega⟩, by omega, I.low (I.tab HR3.out), fun k hk => by have := I.vlt HR1.out k hk; omega, fun k hk => by have := HF3.out k hk; omega⟩
  have hw3 : w.heap.size ≤ w3.heap.size := HB3.out.size
  have HC : Hid (∀ wr a e, Two G R wr p w3.heap.size vr (.slice p3 l.length c3) l a e → Below w.heap.size w wr → ∀ j, (hj : j < acts.length) → ∃ bk off, qa = some ⟨bk, off, none⟩ ∧ wr.cell? ⟨bk, off + j * 4, none⟩ = some (.int .i64 acts[j].1) ∧ wr.cell? ⟨bk, off + j * 4 + 1, none⟩ = some (.int .i64 acts[j].2.1) ∧ wr.cell? ⟨bk, off + j * 4 + 2, none⟩ = some (.int .u64 (acts[j].2.2.1 : Nat)) ∧ wr.cell? ⟨bk, off + j * 4 + 3, none⟩ = some (.int .u8 (acts[j].2.2.2 : Nat))) := fun wr a e h hb j hj => by
    obtain ⟨bk, off, c', hv, h0, h1, h2, h3, hbl⟩ := HA.out j hj
    simp only [Value.slice.injEq] at hv
    obtain ⟨rfl, _, rfl⟩ := hv
    exact ⟨bk, off, rfl, (hb.cell hbl).trans h0, (hb.cell hbl).trans h1, (hb.cell hbl).trans h2, (hb.cell hbl).trans h3⟩
  clear hnew HR1 HB1 HR3 HRd3 HB3 HF3 hs3 hvl
  go_wp2_with fail
  generalize hq : w3.heap.size = Q at *
  generalize w3.alloc (.cells #[.slice p3 l.length c3, .int .i64 0, .int .i64 0] 38) = w4 at *
  clear hq
  go_loopw [29] (fun i wr => ∃ (j a : Nat) (e : Int), j ≤ acts.length ∧ i = .int .i64 (j : Int) ∧ Hid (Two G R wr p Q vr (.slice p3 l.length c3) l a e) ∧ Hid (Below w.heap.size w wr)) (fun i _ => acts.length - (intOf i).toNat)
  case atStart => exact ⟨0, 0, 0, Nat.zero_le _, rfl, HS4, HB4⟩
  case round =>
    obtain ⟨j, a, e, hj, rfl, HSj, HBj⟩ := hrel
    by_cases hjl : j < acts.length
    · have hjl' : (j : Int) < (acts.length : Int) := by omega
      obtain ⟨bk, off, hqa, k0, k1, k2, k3⟩ := HC.out wr a e HSj.out HBj.out j hjl
      subst hqa
      have hok := HOA.out _ (List.getElem_mem hjl)
      unfold actOk at hok
      generalize acts[j] = x at *
      obtain ⟨xk, xn, xu, xi⟩ := x
      simp only at k0 k1 k2 k3 hok
      obtain ⟨hok0, hok1, hok2, hok3⟩ := hok
      have HBa : Hid (Below wr.heap.size wr (wr.alloc (.cells #[.int .i64 xk, .int .i64 xn, .int .u64 (xu : Int), .int .u8 (xi : Int)] 41))) := (Below.refl _ _).alloc (Nat.le_refl _) _
      have HSa := Lib.hid (HSj.out.below I HBa.out)
      go_wp2_with fail
      refine (step_any I p Q vr _ l a e xk xn xu xi _ HSa.out hok1 hok2 hok3).mono ?_
      rintro en w5 ⟨rfl, a5, e5, h5, hm5⟩
      have HS5 := Lib.hid h5
      have HB5 : Hid (Below w.heap.size w w5) := (HBj.out.trans (HBa.out.mono HBj.out.size)).trans (hm5.below (by have := HBj.out.size; have := HBa.out.size; omega) (fun k hk e => by rcases e with e | e <;> omega))
      clear h5 hm5 k0 k1 k2 k3 HSa HBa HSj HBj
      go_wp2_with fail
      go_roundw
      case rel => exact ⟨j + 1, a5, e5, by omega, by go_num, HS5, HB5⟩
      case measure => simp [intOf]; omega
    · have hjl' : ¬ (j : Int) < (acts.length : Int) := by omega
      clear hj hjl
      go_wp2_with fail
      refine (HAL.out _ (I.tab HSj.out.one)).mono ?_
      rintro en w5 ⟨rfl, hB⟩
      have HS5 := Lib.hid (HSj.out.below I hB)
      have HB5 := Lib.hid (HBj.out.trans (hB.mono HBj.out.size))
      clear hB HSj HBj
      go_wp2_with fail
      refine (I.fin HS5.out.one).mono ?_
      rintro en w6 ⟨rfl, hB⟩
      have HS6 := Lib.hid (HS5.out.below I hB)
      have HB6 := Lib.hid (HB5.out.trans (hB.mono HB5.out.size))
      have HE6 := Lib.hid (rr_end Q _ l a e w6 HS6.out.two)
      clear hB HS5 HB5
      generalize (if e = 0 ∧ a < l.length then (4 : Int) else e) = X at *
      go_wp2_with fail
      refine HE6.out.mono ?_
      rintro en w7 ⟨rfl, n7, rfl⟩
      have HB7 : Hid (Below w.heap.size w (w6.drewN n7)) := HB6.out.trans ⟨rfl, rfl, rfl, Nat.le_refl _, fun _ _ => rfl⟩
      go_wp2_with fail
      go_ret
      exact ⟨by simp, HB7.out⟩
end Go.Proofs.YtkgghlhmgolfbaaDoor.wireReads
