/- Layer 5: the reference's Put. -/
import Derived.Test.YtjgiaibpipgjjaaDoorRef05A
import Derived.Test.YtjgiaibpipgjjaaDoorArray
import Derived.Test.YtjgiaibpipgjjaaDoorTakeR
set_option linter.unusedVariables false
namespace Go.Proofs.YtjgiaibpipgjjaaDoor
open Go Go.RowKit

def i64s (l : List Int) : List Value := l.map fun x => .int .i64 x
theorem i64s_length (l : List Int) : (i64s l).length = l.length := by simp [i64s]
theorem i64s_append (a b : List Int) : i64s (a ++ b) = i64s a ++ i64s b := by simp [i64s]
theorem i64s_get (l : List Int) (i : Nat) (h : i < l.length) : (i64s l)[i]? = some (.int .i64 l[i]) := by simp [i64s, h]
theorem i64s_one (l : List Int) : ∀ u ∈ i64s l, u.oneCell' = true := by
  intro u hu
  simp only [i64s, List.mem_map] at hu
  obtain ⟨n, _, rfl⟩ := hu
  rfl
theorem Tryd.arrU5 : Arr Tryd.prog 69 28 5 (.int .u64 0) := Arr.mk' Tryd.underlying69 (by kernel_rfl) (by kernel_rfl) Tryd.underlying28 rfl
theorem Tryd.arrI5 : Arr Tryd.prog 70 3 5 (.int .i64 0) := Arr.mk' Tryd.underlying70 (by kernel_rfl) (by kernel_rfl) Tryd.underlying3 rfl

theorem Tryd.infoI64 : (Tryd.prog.info? 2).map (fun i => (i.zero, i.size, i.bytes)) = some (some (.int .i64 0), 1, 8) := by kernel_rfl
theorem Tryd.elemI64 : Elem Tryd.prog 22 2 1 8 := Elem.mk' Tryd.underlying22 Tryd.infoI64 rfl (by decide)

/-- The three tables. -/
def preT : Nat → Nat
  | 0 => 0
  | 1 => 2
  | 2 => 6
  | 3 => 14
  | _ => 15
def lenT : Nat → Nat
  | 0 => 1
  | 1 => 2
  | 2 => 3
  | 3 => 4
  | _ => 4
theorem headT_bits {k : Nat} (h : k ≤ 4) : headT k = fieldBits (preT k) (lenT k) := by
  match k, h with
  | 0, _ => rfl
  | 1, _ => rfl
  | 2, _ => rfl
  | 3, _ => rfl
  | 4, _ => rfl
/-- The bits written so far, and those that are still to be written. -/
def PutAt (bs : List Bool) (l : List Int) (j : Nat) (d : Int) (B : List Bool) : Prop :=
  (j = 0 ∧ d = 0 ∧ B = bs) ∨ (∃ k last, j = k + 1 ∧ l[k]? = some last ∧ B ++ encFrom last d (l.drop j) = bs ++ encT l)
theorem preT_lt (k : Nat) : preT k < 16 := by unfold preT; split <;> decide
theorem lenT_le (k : Nat) : lenT k ≤ 4 := by unfold lenT; split <;> decide
def preCells : List Value := [.int .u64 0, .int .u64 2, .int .u64 6, .int .u64 14, .int .u64 15]
def lenCells : List Value := [.int .i64 1, .int .i64 2, .int .i64 3, .int .i64 4, .int .i64 4]
def widthCells : List Value := [.int .i64 0, .int .i64 7, .int .i64 12, .int .i64 32, .int .i64 64]
theorem preCells_get {k : Nat} (h : k ≤ 4) : preCells[k]? = some (.int .u64 (preT k : Int)) := by
  match k, h with
  | 0, _ => rfl
  | 1, _ => rfl
  | 2, _ => rfl
  | 3, _ => rfl
  | 4, _ => rfl
theorem lenCells_get {k : Nat} (h : k ≤ 4) : lenCells[k]? = some (.int .i64 (lenT k : Int)) := by
  match k, h with
  | 0, _ => rfl
  | 1, _ => rfl
  | 2, _ => rfl
  | 3, _ => rfl
  | 4, _ => rfl
theorem widthCells_get {k : Nat} (h : k ≤ 4) : widthCells[k]? = some (.int .i64 (widthT k : Int)) := by
  match k, h with
  | 0, _ => rfl
  | 1, _ => rfl
  | 2, _ => rfl
  | 3, _ => rfl
  | 4, _ => rfl

/-- What the tables hold in row K. -/
def Cells3 (n1 n2 n3 K : Nat) (w : World) : Prop := w.cell? ⟨n1, K, none⟩ = some (.int .u64 (preT K : Int)) ∧ w.cell? ⟨n2, K, none⟩ = some (.int .i64 (lenT K : Int)) ∧ w.cell? ⟨n3, K, none⟩ = some (.int .i64 (widthT K : Int))
theorem RefWrote.drewN {v v' : Value} {out : List Bool} {w w' : World} (h : RefWrote v out w v' w') (n : Nat) : RefWrote v out w v' (w'.drewN n) :=
  ⟨(Mods.drewN (fun _ => False) w' n).owns h.own (fun _ _ e => e), h.mods.trans (Mods.drewN _ _ _) (fun _ _ e => e), h.fresh⟩
theorem RefWrote.drew {v v' : Value} {out : List Bool} {w w' : World} (h : RefWrote v out w v' w') : RefWrote v out w v' w'.drew :=
  ⟨(Mods.drew (fun _ => False) w').owns h.own (fun _ _ e => e), h.mods.trans (Mods.drew _ _) (fun _ _ e => e), h.fresh⟩
theorem RefWrote.then {v v' u : Value} {out out' : List Bool} {w w' w2 : World} (h : RefWrote v out w v' w') (k : RefWrote v' out' w' u w2) : RefWrote v out' w u w2 :=
  ⟨k.own, h.mods.trans k.mods (fun j hj e => by
    rcases h.fresh j e with e | e
    · exact e
    · omega), h.fresh.trans k.fresh h.mods.size⟩

set_option maxHeartbeats 4000000 in
theorem ref_put05 (v lv : Value) (bs : List Bool) (l : List Int) (w : World) (h : BitsIn w v bs) (hl : Rd w 1 lv l.length (i64s l)) (hin : ∀ t ∈ l, in64 t) (hap : l ≠ [] → ∀ k, lv.ownBlock = some k → v.ownBlock ≠ some k) (hz : bs.length + 68 * l.length ≤ 70368744177000) :
    Calls Tryd.prog 13 #[v, lv] w fun e w' => ∃ v', e = .returned v' ∧ RefWrote v (bs ++ encT l) w v' w' := by
  have H := Lib.hid h
  have HL := Lib.hid hl
  obtain ⟨pl, cl, hv⟩ := hl.shape
  subst hv
  clear h hl
  go_enter Tryd.func13, Tryd.ntmps13
  go_wp2_with (refine wpList_allocA Tryd.arrU5 rfl rfl ?_)
  intro w1 hb1 hB1 hs1
  have HK1 := Lib.hid hb1; have HB1 := Lib.hid hB1; have HS1 := Lib.hid hs1
  clear hb1 hB1 hs1
  go_wp2_with (refine wpList_storeA Tryd.arrU5 rfl _ _ rfl w.heap.size rfl preCells _ rfl HK1.out (by simp) rfl (by decide) ?_)
  intro w2 hb2 hM2 hs2
  have HK2 := Lib.hid hb2
  have HB2 : Hid (Below w.heap.size w w2) := HB1.out.trans (hM2.below HB1.out.size (fun k hk e => by omega))
  have HS2 : Hid (w2.heap.size = w.heap.size + 1) := by show _ = _; rw [hs2, HS1.out]
  clear hb2 hM2 hs2 HK1 HB1 HS1
  go_wp2_with (refine wpList_allocA Tryd.arrI5 rfl rfl ?_)
  intro w3 hb3 hB3 hs3
  have HK3 := Lib.hid hb3
  have HS3 : Hid (w3.heap.size = w.heap.size + 2) := by show _ = _; rw [hs3, HS2.out]
  have HKa := Lib.hid (HK2.out.of_same (hB3.block _ (by rw [HS2.out]; omega)))
  have HB3 := Lib.hid (HB2.out.trans (hB3.mono HB2.out.size))
  clear hb3 hB3 hs3 HB2 HK2
  go_wp2_with (refine wpList_storeA Tryd.arrI5 rfl _ _ rfl w2.heap.size rfl lenCells _ rfl HK3.out (by simp) rfl (by decide) ?_)
  intro w4 hb4 hM4 hs4
  have HK4 := Lib.hid hb4
  have HKb := Lib.hid (hM4.blk HKa.out (by rw [HS2.out]; omega))
  have HB4 : Hid (Below w.heap.size w w4) := HB3.out.trans (hM4.below HB3.out.size (fun k hk e => by have := HS2.out; omega))
  have HS4 : Hid (w4.heap.size = w.heap.size + 2) := by show _ = _; rw [hs4, HS3.out]
  clear hb4 hM4 hs4 HK3 HKa HB3 HS3
  go_wp2_with (refine wpList_allocA Tryd.arrI5 rfl rfl ?_)
  intro w5 hb5 hB5 hs5
  have HK5 := Lib.hid hb5
  have HS5 : Hid (w5.heap.size = w.heap.size + 3) := by show _ = _; rw [hs5, HS4.out]
  have HKc := Lib.hid (HKb.out.of_same (hB5.block _ (by rw [HS4.out]; omega)))
  have HKd := Lib.hid (HK4.out.of_same (hB5.block _ (by rw [HS4.out, HS2.out]; omega)))
  have HB5 := Lib.hid (HB4.out.trans (hB5.mono HB4.out.size))
  clear hb5 hB5 hs5 HB4 HKb HK4
  go_wp2_with (refine wpList_storeA Tryd.arrI5 rfl _ _ rfl w4.heap.size rfl widthCells _ rfl HK5.out (by simp) rfl (by decide) ?_)
  intro w6 hb6 hM6 hs6
  have HT3 := Lib.hid hb6
  have HT1 := Lib.hid (hM6.blk HKc.out (by rw [HS4.out]; omega))
  have HT2 := Lib.hid (hM6.blk HKd.out (by rw [HS4.out, HS2.out]; omega))
  have HB6 : Hid (Below w.heap.size w w6) := HB5.out.trans (hM6.below HB5.out.size (fun k hk e => by have := HS4.out; omega))
  have HBA : Hid (w.heap.size ≤ w2.heap.size ∧ w.heap.size ≤ w4.heap.size) := ⟨by rw [HS2.out]; omega, by rw [HS4.out]; omega⟩
  clear hb6 hM6 hs6 HK5 HKc HKd HB5 HS5 HS4 HS2
  have HO6 : Hid (BitsIn w6 v bs) := (Mods.of_below HB6.out (fun _ => False)).owns H.out (fun _ _ e => e)
  have HL6 := Lib.hid (HL.out.below HB6.out)
  have HV : Hid (∀ k, v.ownBlock = some k → k < w.heap.size) := owns_lt H.out
  generalize hn1 : w.heap.size = n1 at *
  have HN1 := Lib.hid hn1
  clear hn1
  generalize w2.heap.size = n2 at *
  generalize w4.heap.size = n3 at *
  go_wp2_with fail
  go_loopw [0, 8, 9] (fun v2 d c wr => ∃ (j : Nat) (dd : Int) (B : List Bool), j ≤ l.length ∧ c = .int .i64 (j : Int) ∧ d = .int .i64 dd ∧ PutAt bs l j dd B ∧ Hid (RefWrote v B w6 v2 wr)) (fun _ _ c _ => l.length - (intOf c).toNat)
  case atStart => exact ⟨0, 0, bs, by omega, rfl, rfl, Or.inl ⟨rfl, rfl, rfl⟩, HO6.out, Mods.refl _ _, Fresh.refl _ _⟩
  case round =>
    obtain ⟨j, dd, B, hj, rfl, rfl, hP, HW⟩ := hrel
    by_cases hlt : j < l.length
    · have hlt' : (j : Int) < (l.length : Int) := by omega
      have HLr := Lib.hid (HL6.out.mods HW.out.mods (fun k hk e => hap (fun e0 => by rw [e0] at hlt; simp at hlt) k hk e))
      obtain ⟨b, off, c', e, hnc, _, hcell⟩ := HLr.out.at (fun e => by have := congrArg List.length e; rw [i64s_length] at this; simp at this; subst this; simp at hlt)
      simp only [Value.slice.injEq] at e
      obtain ⟨rfl, _, rfl⟩ := e
      obtain ⟨t, ht⟩ : ∃ t, l[j] = t := ⟨_, rfl⟩
      have hct : wr.cell? ⟨b, off + j, none⟩ = some (.int .i64 t) := by rw [← ht]; exact hcell j _ (i64s_get l j hlt)
      have hdj : l.drop j = t :: l.drop (j + 1) := by rw [← ht]; exact List.drop_eq_getElem_cons hlt
      have hti : in64 t := ht ▸ hin _ (List.getElem_mem hlt)
      obtain ⟨p0, c0, hv0⟩ := (Rd.of_owns HW.out.own).shape
      subst hv0
      rcases hP with ⟨rfl, rfl, rfl⟩ | ⟨k, last, hjk, hlast, hBl⟩
      · have HE : Hid (∀ B', B' = B ++ fieldBits (ofI t) 64 → PutAt B l 1 0 B') := fun B' e => by
          refine Or.inr ⟨0, t, rfl, by rw [List.getElem?_eq_getElem hlt, ht], ?_⟩
          rw [List.drop_zero] at hdj
          rw [e, List.append_assoc]
          congr 1
          conv => rhs; rw [hdj]
          rw [encT]
        have hwt : IntKind.u64.wrap t = (ofI t : Int) := wrap_ofI t
        have HN : Hid (B.length + 64 ≤ 70368744177664) := by show _ ≤ _; omega
        have hct0 : wr.cell? ⟨b, off, none⟩ = some (.int .i64 t) := hct
        have hlt0 : (0 : Int) < (l.length : Int) := hlt'
        clear hdj hcell ht hct
        go_wp2_with fail
        refine (ref_write _ B (ofI t) 64 _ HW.out.own (ofI_lt t) (by omega) HN.out).mono ?_
        rintro en w7 ⟨v7, rfl, hR⟩
        have HR : Hid (RefWrote v (B ++ fieldBits (ofI t) 64) w6 v7 w7) := HW.out.then hR
        clear hR
        go_wp2_with fail
        go_round
        case rel => exact ⟨1, 0, _, by omega, rfl, rfl, HE.out _ rfl, HR.out⟩
        case measure => simp [intOf]; omega
      · have hkl : k < l.length := by omega
        have hck : wr.cell? ⟨b, off + k, none⟩ = some (.int .i64 last) := hcell k _ (by rw [i64s_get l k hkl]; rw [List.getElem?_eq_getElem hkl] at hlast; rw [Option.some.inj hlast])
        obtain ⟨x, hx⟩ : ∃ x, wrap64 (wrap64 (t - last) - dd) = x := ⟨_, rfl⟩
        obtain ⟨d2, hd2⟩ : ∃ d2, wrap64 (t - last) = d2 := ⟨_, rfl⟩
        have hxin : in64 x := hx ▸ w64_in _
        rw [hdj, encFrom, hx, hd2] at hBl
        rw [hd2] at hx
        have HDx := Lib.hid hx; have HD2 := Lib.hid hd2
        clear hx hd2
        have HE : Hid (∀ B', B' = B ++ encX x → PutAt bs l (j + 1) d2 B') := fun B' e => by
          refine Or.inr ⟨j, t, rfl, by rw [List.getElem?_eq_getElem hlt, ht], ?_⟩
          rw [e, List.append_assoc]; exact hBl
        have HN : Hid (B.length + 68 ≤ 70368744177660) := by
          show _ ≤ _
          have h1 := congrArg List.length hBl
          simp only [List.length_append] at h1
          have h2 := encT_len l
          omega
        have HX : Hid (encX x = fieldBits (preT (formT x)) (lenT (formT x)) ++ fieldBits (ofI x) (widthT (formT x))) := by show _ = _; rw [encX, headT_bits (formT_le x)]
        have hk4 := formT_le x
        have HFm := Lib.hid (ref_form x)
        have hk5 : ((formT x : Nat) : Int) < 5 := by omega
        have HK : Hid (formT x ≤ 4) := hk4
        have HKp : Hid (preT (formT x) < 16) := preT_lt _
        have HKl : Hid (lenT (formT x) ≤ 4) := lenT_le _
        have HKw : Hid (widthT (formT x) ≤ 64) := widthT_le _
        have HCp : Hid (wr.cell? ⟨n1, formT x, none⟩ = some (.int .u64 (preT (formT x) : Int))) := (HW.out.mods.blk HT1.out (fun e => by have := HV.out _ e; omega)).cell _ |>.trans (preCells_get hk4)
        have HCl : Hid (wr.cell? ⟨n2, formT x, none⟩ = some (.int .i64 (lenT (formT x) : Int))) := (HW.out.mods.blk HT2.out (fun e => by have := HV.out _ e; have := HBA.out; omega)).cell _ |>.trans (lenCells_get hk4)
        have HCw : Hid (wr.cell? ⟨n3, formT x, none⟩ = some (.int .i64 (widthT (formT x) : Int))) := (HW.out.mods.blk HT3.out (fun e => by have := HV.out _ e; have := HBA.out; omega)).cell _ |>.trans (widthCells_get hk4)
        generalize formT x = K at *
        have hj1 : (j : Int) - 1 = (k : Int) := by omega
        have hjb : (j == 0) = false := by rw [beq_eq_false_iff_ne]; omega
        have hjb2 : ((j : Int) == 0) = false := by rw [beq_eq_false_iff_ne]; omega
        have hk' : (k : Int) < (l.length : Int) := by omega
        clear hdj hcell ht hlast hBl hjk hkl hk4
        go_wp2_with fail
        go_quiet (fail)
        have HWa : Hid (RefWrote v B w6 (Value.slice p0 B.length c0) (wr.drewN nq)) := HW.out.drewN _
        have hcta : (wr.drewN nq).cell? ⟨b, off + j, none⟩ = some (.int .i64 t) := hct
        have hcka : (wr.drewN nq).cell? ⟨b, off + k, none⟩ = some (.int .i64 last) := hck
        have HCpa : Hid ((wr.drewN nq).cell? ⟨n1, K, none⟩ = some (.int .u64 (preT K : Int))) := HCp.out
        have HCla : Hid ((wr.drewN nq).cell? ⟨n2, K, none⟩ = some (.int .i64 (lenT K : Int))) := HCl.out
        have HCwa : Hid ((wr.drewN nq).cell? ⟨n3, K, none⟩ = some (.int .i64 (widthT K : Int))) := HCw.out
        clear hct hck HCp HCl HCw HW HLr
        generalize wr.drewN nq = wa at *
        go_wp2_with fail
        go_quiet (fail)
        have HWb : Hid (RefWrote v B w6 (Value.slice p0 B.length c0) (wa.drewN nq)) := HWa.out.drewN _
        have HCpb : Hid ((wa.drewN nq).cell? ⟨n1, K, none⟩ = some (.int .u64 (preT K : Int))) := HCpa.out
        have HClb : Hid ((wa.drewN nq).cell? ⟨n2, K, none⟩ = some (.int .i64 (lenT K : Int))) := HCla.out
        have HCwb : Hid ((wa.drewN nq).cell? ⟨n3, K, none⟩ = some (.int .i64 (widthT K : Int))) := HCwa.out
        clear hcta hcka HCpa HCla HCwa HWa
        generalize wa.drewN nq = wb at *
        go_wp2_with fail
        rw [HD2.out, HDx.out]
        refine (HFm.out _).mono ?_
        rintro en w7 ⟨rfl, rfl⟩
        go_wp2_with fail
        have HC : Hid (∀ w' : World, Cells3 n1 n2 n3 K w' → w'.cell? ⟨n1, K, none⟩ = some (.int .u64 (preT K : Int)) ∧ w'.cell? ⟨n2, K, none⟩ = some (.int .i64 (lenT K : Int)) ∧ w'.cell? ⟨n3, K, none⟩ = some (.int .i64 (widthT K : Int))) := fun _ h => h
        refine wp_region_takeH (Cells3 n1 n2 n3 K) [7] [0, 1, 2, 3, 4, 5, 6, 7, 8] (by kernel_rfl) (by kernel_rfl) (by kernel_rfl) ?_ ?_ ?_
        · intro c a a' w hd h; exact ⟨hd ▸ h.1, h.2⟩
        · exact ⟨HCpb.out, HClb.out, HCwb.out⟩
        simp only [taken, List.map_cons, List.map_nil, List.getElem?_cons_succ, List.getElem?_cons_zero, Option.getD_some]
        repeat (first
        | (refine takeH_skip rfl ?_; simp only [Act.put, List.setIfInBounds_toArray, List.set_cons_succ, List.set_cons_zero])
        | (refine takeH_blind rfl rfl ?_; apply Exists.intro; refine ⟨fun w => ?_, ?_⟩; (go_simp; try with_reducible rfl); simp only [Act.put, List.setIfInBounds_toArray, List.set_cons_succ, List.set_cons_zero])
        | (refine takeH_reads rfl rfl ?_; apply Exists.intro; refine ⟨fun w' hS => ?_, ?_⟩; (obtain ⟨d0, d1, d2⟩ := HC.out w' hS; go_simp; try with_reducible rfl); simp only [Act.put, List.setIfInBounds_toArray, List.set_cons_succ, List.set_cons_zero]))
        refine takeH_call rfl rfl (fun K' hK => ?_)
        go_wp2_with fail
        have HWc : Hid (RefWrote v B w6 (Value.slice p0 B.length c0) w7.drew) := HWb.out.drew
        refine (ref_write _ B (preT K) (lenT K) _ HWc.out.own (by have := HKp.out; omega) (by have := HKl.out; omega) (by have := HN.out; omega)).mono ?_
        rintro en w8 ⟨v8, rfl, hR⟩
        have HW8 : Hid (RefWrote v (B ++ fieldBits (preT K) (lenT K)) w6 v8 w8) := HWc.out.then hR
        have HX8 : Hid (B ++ encX x = (B ++ fieldBits (preT K) (lenT K)) ++ fieldBits (ofI x) (widthT K)) := by show _ = _; rw [HX.out, List.append_assoc]
        have HN8 : Hid ((B ++ fieldBits (preT K) (lenT K)).length + 64 ≤ 70368744177664) := by
          show _ ≤ _
          have := HN.out; have := HKl.out
          rw [List.length_append, fieldBits_length]; omega
        clear hR
        generalize B ++ fieldBits (preT K) (lenT K) = L8 at HW8 HX8 HN8
        have HC8 : Hid (Cells3 n1 n2 n3 K w8) := ⟨((HW8.out.mods.blk HT1.out (fun e => by have := HV.out _ e; omega)).cell _).trans (preCells_get HK.out), ((HW8.out.mods.blk HT2.out (fun e => by have := HV.out _ e; have := HBA.out; omega)).cell _).trans (lenCells_get HK.out), ((HW8.out.mods.blk HT3.out (fun e => by have := HV.out _ e; have := HBA.out; omega)).cell _).trans (widthCells_get HK.out)⟩
        obtain ⟨p8, c8, hv8⟩ := (Rd.of_owns HW8.out.own).shape
        subst hv8
        refine hK _ _ HC8.out ?_
        clear hK K' HWb HWc HCpb HClb HCwb
        refine takeH_blind rfl rfl ?_
        apply Exists.intro
        refine ⟨fun w => ?_, ?_⟩
        (go_simp; try with_reducible rfl)
        simp only [Act.put, List.setIfInBounds_toArray, List.set_cons_zero]
        refine takeH_nil ?_
        clear HC
        have hcw := HC8.out.2.2
        have hwx : IntKind.u64.wrap x = (ofI x : Int) := wrap_ofI x
        go_wp2_with fail
        refine (ref_write _ _ (ofI x) (widthT K) w8 HW8.out.own (ofI_lt x) HKw.out HN8.out).mono ?_
        rintro en w9 ⟨v9, rfl, hR⟩
        have HW9 : Hid (RefWrote v (B ++ encX x) w6 v9 w9) := by
          show RefWrote _ _ _ _ _
          rw [HX8.out]
          exact HW8.out.then hR
        clear hR HW8 HC8 hcw hwx
        go_wp2_with fail
        go_round
        case rel => exact ⟨j + 1, d2, _, by omega, by go_num, rfl, HE.out _ rfl, HW9.out⟩
        case measure => simp [intOf]; omega
    · have hnl : ¬ (j : Int) < (l.length : Int) := by omega
      obtain rfl : j = l.length := by omega
      have HE : Hid (B = bs ++ encT l) := by
        rcases hP with ⟨h0, _, rfl⟩ | ⟨k, last, _, _, hBl⟩
        · have : l = [] := List.eq_nil_of_length_eq_zero h0
          subst this
          show B = B ++ []
          rw [List.append_nil]
        · rw [List.drop_length, encFrom, List.append_nil] at hBl
          exact hBl
      rw [HE.out] at HW
      go_wp2_with fail
      go_ret
      exact ⟨_, rfl, HW.out.own, (Mods.of_below (by rw [HN1.out]; exact HB6.out) _).trans HW.out.mods (fun _ _ e => e), fun k hk => by
        rcases HW.out.fresh k hk with e | e
        · exact Or.inl e
        · have := HB6.out.size; have := HN1.out; exact Or.inr (by omega)⟩
end Go.Proofs.YtjgiaibpipgjjaaDoor
