/- Layer 4: WireIsolated, walked, for whatever reader meets the interface. -/
import Derived.Test.YtkgghlhmgolfbaaDoorStep04
import Derived.Test.YtkgghlhmgolfbaaDoorAct04
import Derived.Test.YtkgghlhmgolfbaaDoorBytesClone
set_option linter.unusedVariables false
namespace Go.Proofs.YtkgghlhmgolfbaaDoor.wireIsolated
open Go Go.RowKit
variable {G : Nat} {T : World → Prop} {R : World → Nat → Value → List Nat → Nat → Int → Prop}

/-- What the walk asks of a nil reader. -/
structure WNil (T : World → Prop) : Prop where
  pos : ∀ w, Calls Tryd.prog 23 #[.pointer none] w fun en w' => en = .returned (.int .i64 0) ∧ Below w.heap.size w w'
  err : ∀ w, Calls Tryd.prog 25 #[.pointer none] w fun en w' => en = .returned (.int .i64 1) ∧ Below w.heap.size w w'
  fin : ∀ w, Calls Tryd.prog 18 #[.pointer none] w fun en w' => en = .returned (.int .i64 1) ∧ Below w.heap.size w w'
  fail : ∀ (x : Int) w, Calls Tryd.prog 27 #[.pointer none, .int .i64 x] w fun en w' => en = .returned (.tuple #[]) ∧ Below w.heap.size w w'
  byte : ∀ w, Calls Tryd.prog 26 #[.pointer none] w fun en w' => en = .returned (.int .u8 0) ∧ Below w.heap.size w w'
  uint : ∀ (x : Nat) w, Calls Tryd.prog 28 #[.pointer none, .int .u64 (x : Int)] w fun en w' => en = .returned (.int .u64 0) ∧ Below w.heap.size w w'
  take : ∀ (x : Int) w, Calls Tryd.prog 29 #[.pointer none, .int .i64 x] w fun en w' => en = .returned (.slice none 0 0) ∧ Below w.heap.size w w'
  string : ∀ (x : Int) w, Calls Tryd.prog 21 #[.pointer none, .int .i64 x] w fun en w' => en = .returned (.string ⟨#[]⟩) ∧ Below w.heap.size w w'
  sect : ∀ (x : Nat) w, Calls Tryd.prog 22 #[.pointer none, .int .u8 (x : Int)] w fun en w' => en = .returned (.slice none 0 0) ∧ Below w.heap.size w w'

def inc8 (x : Nat) : Nat := (x + 1) % 256
def dec8 (x : Nat) : Nat := (x + 255) % 256
def upd (f : Nat → Nat) (L : List Nat) (k : Nat) : List Nat := (L.take k).map f ++ L.drop k
theorem upd_zero (f : Nat → Nat) (L : List Nat) : upd f L 0 = L := by simp [upd]
theorem upd_all (f : Nat → Nat) (L : List Nat) : upd f L L.length = L.map f := by simp [upd]
theorem upd_get (f : Nat → Nat) (L : List Nat) (k : Nat) (h : k < L.length) : (upd f L k)[k]? = some L[k] := by
  have hl : ((L.take k).map f).length = k := by rw [List.length_map, List.length_take]; omega
  rw [upd, List.getElem?_append_right (by omega), hl, Nat.sub_self, List.getElem?_drop, Nat.add_zero, List.getElem?_eq_getElem h]
theorem u8s_upd (f : Nat → Nat) (L : List Nat) (k : Nat) (h : k < L.length) : (u8s (upd f L k))[k]? = some (.int .u8 ((L[k] : Nat) : Int)) := by
  rw [u8s, List.getElem?_map, upd_get f L k h]; rfl
theorem upd_set (f : Nat → Nat) (L : List Nat) (k : Nat) (h : k < L.length) : (upd f L k).set k (f L[k]) = upd f L (k + 1) := by
  have hl : ((L.take k).map f).length = k := by rw [List.length_map, List.length_take]; omega
  rw [upd, List.set_append_right _ _ (by omega), hl, Nat.sub_self, List.drop_eq_getElem_cons h, List.set_cons_zero, upd, List.take_add_one, List.getElem?_eq_getElem h]
  show _ = List.map f (List.take k L ++ [L[k]]) ++ _
  rw [List.map_append, List.append_assoc]
  rfl

theorem inc8_lt (x : Nat) : inc8 x < 256 := Nat.mod_lt _ (by decide)
theorem dec8_lt (x : Nat) : dec8 x < 256 := Nat.mod_lt _ (by decide)
theorem inc_dec (l : List Nat) (h : ∀ a ∈ l, a < 256) : (l.map dec8).map inc8 = l := by
  rw [List.map_map]
  refine (List.map_congr_left (g := id) (fun a ha => ?_)).trans (List.map_id _)
  have := h a ha
  simp only [Function.comp, inc8, dec8, id]
  omega
theorem outTake_all (l : List Nat) : outTake l 0 (l.length : Int) = .ok l l.length := by simp [outTake]

set_option maxHeartbeats 8000000 in
theorem walk (I : WIf G T R) (Z : WNil T) (hal : ∀ w, T w → Calls Tryd.prog 9 #[] w fun e w' => e = .returned (.bool true) ∧ Below w.heap.size w w')
    (w : World) (hT : T w) (v : Value) (l : List Nat) (ok : ∀ a ∈ l, a < 256) (hl : Rd w 1 v l.length (u8s l)) (hz : l.length * 1 ≤ 140737488351232)
    (K N : Int) (U id : Nat) :
    Calls Tryd.prog 8 #[v, .agg #[.int .i64 K, .int .i64 N, .int .u64 (U : Int), .int .u8 (id : Int)]] w fun e w' => e = .returned (.bool true) ∧ Below w.heap.size w w' := by
  have HB0 : Hid (Below w.heap.size w (w.alloc (.cells #[.int .i64 K, .int .i64 N, .int .u64 (U : Int), .int .u8 (id : Int)] 41))) := (Below.refl _ _).alloc (Nat.le_refl _) _
  have HBx0 : Hid (Box w.heap.size N U id (w.alloc (.cells #[.int .i64 K, .int .i64 N, .int .u64 (U : Int), .int .u8 (id : Int)] 41))) := Box.new _ _ _ _ _ _
  have HO := Lib.hid ok
  have HAL := Lib.hid hal
  have HL := Lib.hid hl
  have HT := Lib.hid hT
  obtain ⟨q0, c, hv⟩ := hl.shape
  subst hv
  clear hl ok hT hal
  have HT0 := Lib.hid (I.keeps HT.out (Mods.of_below HB0.out (fun _ => False)) (fun _ _ h => h))
  by_cases hlt : 2000 < l.length
  · have hlt' : (2000 : Int) < (l.length : Int) := by omega
    go_enter Tryd.func8, Tryd.ntmps8
    go_wp2_with fail
    refine (HAL.out _ HT0.out).mono ?_
    rintro en w1 ⟨rfl, hB⟩
    have HB1 := Lib.hid (HB0.out.trans (hB.mono HB0.out.size))
    go_wp2_with fail
    go_ret
    exact ⟨rfl, HB1.out⟩
  have hl2 : ¬ (2000 : Int) < (l.length : Int) := by omega
  go_enter Tryd.func8, Tryd.ntmps8
  go_wp2_with fail
  refine (Z.fail N _).mono ?_
  rintro en w1 ⟨rfl, hB⟩
  have HBx1 := Lib.hid (HBx0.out.mods (Mods.of_below hB (fun _ => False)) (fun h => h))
  have HB1 := Lib.hid (HB0.out.trans (hB.mono HB0.out.size))
  clear hB HBx0 HB0 HT0
  go_wp2_with fail
  refine (Z.pos _).mono ?_
  rintro en w2 ⟨rfl, hB⟩
  have HBx2 := Lib.hid (HBx1.out.mods (Mods.of_below hB (fun _ => False)) (fun h => h))
  have HB2 := Lib.hid (HB1.out.trans (hB.mono HB1.out.size))
  clear hB HBx1 HB1 w1
  go_wp2_with fail
  refine (Z.err _).mono ?_
  rintro en w1 ⟨rfl, hB⟩
  have HBx1 := Lib.hid (HBx2.out.mods (Mods.of_below hB (fun _ => False)) (fun h => h))
  have HB1 := Lib.hid (HB2.out.trans (hB.mono HB2.out.size))
  clear hB HBx2 HB2 w2
  go_wp2_with fail
  refine (Z.byte _).mono ?_
  rintro en w2 ⟨rfl, hB⟩
  have HBx2 := Lib.hid (HBx1.out.mods (Mods.of_below hB (fun _ => False)) (fun h => h))
  have HB2 := Lib.hid (HB1.out.trans (hB.mono HB1.out.size))
  obtain ⟨b1, b2, b3⟩ := HBx2.out
  clear hB HBx1 HB1 w1
  go_wp2_with fail
  refine (Z.uint U _).mono ?_
  rintro en w1 ⟨rfl, hB⟩
  have HBx1 := Lib.hid (HBx2.out.mods (Mods.of_below hB (fun _ => False)) (fun h => h))
  have HB1 := Lib.hid (HB2.out.trans (hB.mono HB2.out.size))
  clear b1 b2 b3
  obtain ⟨b1, b2, b3⟩ := HBx1.out
  clear hB HBx2 HB2 w2
  go_wp2_with fail
  refine (Z.take N _).mono ?_
  rintro en w2 ⟨rfl, hB⟩
  have HBx2 := Lib.hid (HBx1.out.mods (Mods.of_below hB (fun _ => False)) (fun h => h))
  have HB2 := Lib.hid (HB1.out.trans (hB.mono HB1.out.size))
  clear b1 b2 b3
  obtain ⟨b1, b2, b3⟩ := HBx2.out
  clear hB HBx1 HB1 w1
  go_wp2_with fail
  refine (Z.string N _).mono ?_
  rintro en w1 ⟨rfl, hB⟩
  have HBx1 := Lib.hid (HBx2.out.mods (Mods.of_below hB (fun _ => False)) (fun h => h))
  have HB1 := Lib.hid (HB2.out.trans (hB.mono HB2.out.size))
  clear b1 b2 b3
  obtain ⟨b1, b2, b3⟩ := HBx1.out
  clear hB HBx2 HB2 w2
  go_wp2_with fail
  refine (Z.sect id _).mono ?_
  rintro en w2 ⟨rfl, hB⟩
  have HB2 := Lib.hid (HB1.out.trans (hB.mono HB1.out.size))
  clear b1 b2 b3
  clear hB HBx1 HB1 w1
  go_wp2_with fail
  refine (Z.fin _).mono ?_
  rintro en w1 ⟨rfl, hB⟩
  have HB1 := Lib.hid (HB2.out.trans (hB.mono HB2.out.size))
  have HL1 := Lib.hid (HL.out.below HB1.out)
  have HT1 := Lib.hid (I.keeps HT.out (Mods.of_below HB1.out (fun _ => False)) (fun _ _ h => h))
  clear hB HB2 w2
  go_wp2_with fail
  refine (bytes_clone _ _ _ _ HL1.out (u8s_oneCell _) (by omega)).mono ?_
  rintro en w2 ⟨r2, rfl, hM⟩
  obtain ⟨q2, c2, hr⟩ := (Rd.of_owns hM.1).shape
  subst hr
  have HO2 := Lib.hid hM.1
  have HB2 := Lib.hid (HB1.out.trans (hM.2.mono HB1.out.size))
  have HT2 := Lib.hid (I.keeps HT1.out (Mods.of_below hM.2 (fun _ => False)) (fun _ _ h => h))
  clear hM HL1 HT1
  go_wp2_with fail
  refine (I.new _ l _ HT2.out (Rd.of_owns HO2.out) HO.out (by omega)).mono ?_
  rintro en w3 ⟨p, vr, rfl, hR, hp, hvr, hB⟩
  have HR3 := Lib.hid hR
  have HO3 := Lib.hid ((Mods.of_below hB (fun _ => False)).owns HO2.out (fun _ _ e => e))
  have HB3 := Lib.hid (HB2.out.trans (hB.mono HB2.out.size))
  have HS3 : Hid ((∀ k, (Value.slice q2 l.length c2).ownBlock = some k → k ≠ p ∧ vr.ownBlock ≠ some k ∧ w.heap.size ≤ k) ∧ w.heap.size ≤ p) := by
    refine ⟨fun k hk => ?_, by have := HB2.out.size; omega⟩
    have h1 := HO2.out.lt k hk
    refine ⟨by omega, fun e => ?_, by have := HB1.out.size; omega⟩
    have := hvr k e
    omega
  clear hR hp hvr hB HO2 HB2 HT2
  go_wp2_with fail
  go_loopw [76] (fun i wr => ∃ k : Nat, k ≤ l.length ∧ i = .int .i64 (k : Int) ∧ Hid (wr.ownsRow w1.heap.size 5 1 (.slice q2 l.length c2) l.length (u8s (upd inc8 l k))) ∧ Hid (Mods (fun j => (Value.slice q2 l.length c2).ownBlock = some j) w3 wr)) (fun i _ => l.length - (intOf i).toNat)
  case atStart => exact ⟨0, Nat.zero_le _, rfl, by show World.ownsRow _ _ _ _ _ _ _; rw [upd_zero]; exact HO3.out, Mods.refl _ _⟩
  case round =>
    obtain ⟨k, hk, rfl, HOk, HMk⟩ := hrel
    by_cases hkl : k < l.length
    · have hkl' : (k : Int) < (l.length : Int) := by omega
      obtain ⟨g, cap, hv⟩ : ∃ g cap, (Value.slice q2 l.length c2) = .slice (some ⟨g, 0, none⟩) l.length cap := by
        rcases owns_cases HOk.out with ⟨_, h0, _⟩ | ⟨g, cap, hv, _⟩
        · omega
        · exact ⟨g, cap, hv⟩
      simp only [Value.slice.injEq] at hv
      obtain ⟨rfl, _, rfl⟩ := hv
      have hkL : k < (l).length := hkl
      obtain ⟨x, hx⟩ : ∃ x, (l)[k] = x := ⟨_, rfl⟩
      have hcell : wr.cell? ⟨g, k, none⟩ = some (.int .u8 (x : Int)) := by
        rw [HOk.out.cellAt k (by omega), ← hx]
        exact u8s_upd _ _ k hkL
      have hfro : wr.frozen? ⟨g, k, none⟩ = false := HOk.out.frozenAt _
      have hx8 : x < 256 := hx ▸ HO.out _ (List.getElem_mem hkL)
      have HV : Hid (((x : Int) + 1) % 256 = ((inc8 x : Nat) : Int)) := by show _ = _; simp [inc8]
      have HON : Hid ((wr.setCell ⟨g, k, none⟩ (.int .u8 (((x : Int) + 1) % 256))).ownsRow w1.heap.size 5 1 (.slice (some ⟨g, 0, none⟩) l.length c2) l.length (u8s (upd inc8 l (k + 1)))) := by
        show World.ownsRow _ _ _ _ _ _ _
        rw [HV.out, ← upd_set inc8 _ k hkL, hx, ← u8s_set]
        exact (HOk.out.stored k _).1
      have HMN : Hid (Mods (fun j => (Value.slice (some ⟨g, 0, none⟩) l.length c2).ownBlock = some j) w3 (wr.setCell ⟨g, k, none⟩ (.int .u8 (((x : Int) + 1) % 256)))) := HMk.out.trans (Mods.set (fun j => some g = some j) _ _ _ (fun _ => rfl)) (fun _ _ e => e)
      clear HV hx HOk HMk
      go_wp2_with fail
      go_roundw
      case rel => exact ⟨k + 1, by omega, by go_num, HON, HMN⟩
      case measure => simp [intOf]; omega
    · have hkl' : ¬ (k : Int) < (l.length : Int) := by omega
      have HOe : Hid (wr.ownsRow w1.heap.size 5 1 (.slice q2 l.length c2) l.length (u8s ((l).map inc8))) := by
        show World.ownsRow _ _ _ _ _ _ _
        have h := HOk.out
        rw [show k = (l).length by omega, upd_all] at h
        exact h
      clear HOk hk hkl
      have HRe : Hid (R wr p vr l 0 0) := I.mods HR3.out HMk.out (fun e => (HS3.out.1 p e).1 rfl) (fun j hj e => (HS3.out.1 j e).2.1 hj) (fun j hj e => by have := (HS3.out.1 j e).2.2; have := I.low HT.out; omega)
      have HBe : Hid (Below w.heap.size w wr) := HB3.out.trans (HMk.out.below HB3.out.size (fun j hj e => by have := (HS3.out.1 j e).2.2; omega))
      clear HMk HR3 HO3 HB3 HOe
      go_wp2_with fail
      refine (I.take (l.length : Int) ⟨by omega, by omega⟩ HRe.out).mono ?_
      rintro en w4 ⟨hm, hg⟩
      rw [outTake_all] at hg
      obtain ⟨⟨r4, rfl, hO4⟩, hR⟩ := hg
      obtain ⟨q4, c4, hv⟩ := (Rd.of_owns hO4).shape
      subst hv
      have HO4 := Lib.hid hO4
      have HR4 := Lib.hid hR
      have HB4 := Lib.hid (HBe.out.trans (hm.below HBe.out.size (fun j hj e => by have := HS3.out.2; omega)))
      have HS4 : Hid (∀ k, (Value.slice q4 l.length c4).ownBlock = some k → k ≠ p ∧ vr.ownBlock ≠ some k ∧ w.heap.size ≤ k) := by
        refine fun j hj => ?_
        have h1 := hO4.lt j hj
        have h2 := I.lt HRe.out
        refine ⟨by omega, fun e => by have := I.vlt HRe.out j e; omega, by have := HBe.out.size; omega⟩
      clear hm hR hO4 HRe HBe hkl' HS3
      generalize hbs : wr.heap.size = bs at HO4
      clear hbs
      go_wp2_with fail
      go_loopw [92] (fun i wr => ∃ k : Nat, k ≤ l.length ∧ i = .int .i64 (k : Int) ∧ Hid (wr.ownsRow bs 5 1 (.slice q4 l.length c4) l.length (u8s (upd dec8 l k))) ∧ Hid (Mods (fun j => (Value.slice q4 l.length c4).ownBlock = some j) w4 wr)) (fun i _ => l.length - (intOf i).toNat)
      case atStart => exact ⟨0, Nat.zero_le _, rfl, by show World.ownsRow _ _ _ _ _ _ _; rw [upd_zero]; exact HO4.out, Mods.refl _ _⟩
      case round =>
        obtain ⟨k, hk, rfl, HOk, HMk⟩ := hrel
        by_cases hkl : k < l.length
        · have hkl' : (k : Int) < (l.length : Int) := by omega
          obtain ⟨g, cap, hv⟩ : ∃ g cap, (Value.slice q4 l.length c4) = .slice (some ⟨g, 0, none⟩) l.length cap := by
            rcases owns_cases HOk.out with ⟨_, h0, _⟩ | ⟨g, cap, hv, _⟩
            · omega
            · exact ⟨g, cap, hv⟩
          simp only [Value.slice.injEq] at hv
          obtain ⟨rfl, _, rfl⟩ := hv
          have hkL : k < (l).length := hkl
          obtain ⟨x, hx⟩ : ∃ x, (l)[k] = x := ⟨_, rfl⟩
          have hcell : wr.cell? ⟨g, k, none⟩ = some (.int .u8 (x : Int)) := by
            rw [HOk.out.cellAt k (by omega), ← hx]
            exact u8s_upd _ _ k hkL
          have hfro : wr.frozen? ⟨g, k, none⟩ = false := HOk.out.frozenAt _
          have hx8 : x < 256 := hx ▸ HO.out _ (List.getElem_mem hkL)
          have HV : Hid (((x : Int) - 1) % 256 = ((dec8 x : Nat) : Int)) := by show _ = _; unfold dec8; omega
          have HON : Hid ((wr.setCell ⟨g, k, none⟩ (.int .u8 (((x : Int) - 1) % 256))).ownsRow bs 5 1 (.slice (some ⟨g, 0, none⟩) l.length c4) l.length (u8s (upd dec8 l (k + 1)))) := by
            show World.ownsRow _ _ _ _ _ _ _
            rw [HV.out, ← upd_set dec8 _ k hkL, hx, ← u8s_set]
            exact (HOk.out.stored k _).1
          have HMN : Hid (Mods (fun j => (Value.slice (some ⟨g, 0, none⟩) l.length c4).ownBlock = some j) w4 (wr.setCell ⟨g, k, none⟩ (.int .u8 (((x : Int) - 1) % 256)))) := HMk.out.trans (Mods.set (fun j => some g = some j) _ _ _ (fun _ => rfl)) (fun _ _ e => e)
          clear HV hx HOk HMk
          go_wp2_with fail
          go_roundw
          case rel => exact ⟨k + 1, by omega, by go_num, HON, HMN⟩
          case measure => simp [intOf]; omega
        · have hkl' : ¬ (k : Int) < (l.length : Int) := by omega
          have HOe : Hid (wr.ownsRow bs 5 1 (.slice q4 l.length c4) l.length (u8s ((l).map dec8))) := by
            show World.ownsRow _ _ _ _ _ _ _
            have h := HOk.out
            rw [show k = (l).length by omega, upd_all] at h
            exact h
          clear HOk hk hkl
          obtain ⟨w5, hw5⟩ : ∃ x, x = wr := ⟨_, rfl⟩
          subst hw5
          have HR5 : Hid (R w5 p vr l l.length 0) := I.mods HR4.out HMk.out (fun e => (HS4.out p e).1 rfl) (fun j hj e => (HS4.out j e).2.1 hj) (fun j hj e => by have := (HS4.out j e).2.2; have := I.low HT.out; omega)
          have HB5 : Hid (Below w.heap.size w w5) := HB4.out.trans (HMk.out.below HB4.out.size (fun j hj e => by have := (HS4.out j e).2.2; omega))
          have HO5 := Lib.hid HOe.out
          have HDm : Hid ((l.map dec8).map inc8 = l) := inc_dec l HO.out
          have HDo : Hid (∀ a ∈ l.map dec8, a < 256) := by
            intro a ha
            obtain ⟨b, _, rfl⟩ := List.mem_map.1 ha
            exact dec8_lt b
          have HDl : Hid ((l.map dec8).length = l.length) := List.length_map _
          generalize l.map dec8 = D at HO5 HDm HDo HDl
          clear HMk HR4 HO4 HB4 HOe
          go_wp2_with fail
          go_loopw [104] (fun i wr => ∃ k : Nat, k ≤ l.length ∧ i = .int .i64 (k : Int) ∧ Hid (wr.ownsRow bs 5 1 (.slice q4 l.length c4) l.length (u8s (upd inc8 D k))) ∧ Hid (Mods (fun j => (Value.slice q4 l.length c4).ownBlock = some j) w5 wr)) (fun i _ => l.length - (intOf i).toNat)
          case atStart => exact ⟨0, Nat.zero_le _, rfl, by show World.ownsRow _ _ _ _ _ _ _; rw [upd_zero]; exact HO5.out, Mods.refl _ _⟩
          case round =>
            obtain ⟨k, hk, rfl, HOk, HMk⟩ := hrel
            by_cases hkl : k < l.length
            · have hkl' : (k : Int) < (l.length : Int) := by omega
              obtain ⟨g, cap, hv⟩ : ∃ g cap, (Value.slice q4 l.length c4) = .slice (some ⟨g, 0, none⟩) l.length cap := by
                rcases owns_cases HOk.out with ⟨_, h0, _⟩ | ⟨g, cap, hv, _⟩
                · omega
                · exact ⟨g, cap, hv⟩
              simp only [Value.slice.injEq] at hv
              obtain ⟨rfl, _, rfl⟩ := hv
              have hkL : k < (D).length := by rw [HDl.out]; exact hkl
              obtain ⟨x, hx⟩ : ∃ x, (D)[k] = x := ⟨_, rfl⟩
              have hcell : wr.cell? ⟨g, k, none⟩ = some (.int .u8 (x : Int)) := by
                rw [HOk.out.cellAt k (by omega), ← hx]
                exact u8s_upd _ _ k hkL
              have hfro : wr.frozen? ⟨g, k, none⟩ = false := HOk.out.frozenAt _
              have hx8 : x < 256 := hx ▸ HDo.out _ (List.getElem_mem hkL)
              have HV : Hid (((x : Int) + 1) % 256 = ((inc8 x : Nat) : Int)) := by show _ = _; simp [inc8]
              have HON : Hid ((wr.setCell ⟨g, k, none⟩ (.int .u8 (((x : Int) + 1) % 256))).ownsRow bs 5 1 (.slice (some ⟨g, 0, none⟩) l.length c4) l.length (u8s (upd inc8 D (k + 1)))) := by
                show World.ownsRow _ _ _ _ _ _ _
                rw [HV.out, ← upd_set inc8 _ k hkL, hx, ← u8s_set]
                exact (HOk.out.stored k _).1
              have HMN : Hid (Mods (fun j => (Value.slice (some ⟨g, 0, none⟩) l.length c4).ownBlock = some j) w5 (wr.setCell ⟨g, k, none⟩ (.int .u8 (((x : Int) + 1) % 256)))) := HMk.out.trans (Mods.set (fun j => some g = some j) _ _ _ (fun _ => rfl)) (fun _ _ e => e)
              clear HV hx HOk HMk
              go_wp2_with fail
              go_roundw
              case rel => exact ⟨k + 1, by omega, by go_num, HON, HMN⟩
              case measure => simp [intOf]; omega
            · have hkl' : ¬ (k : Int) < (l.length : Int) := by omega
              have HOe : Hid (wr.ownsRow bs 5 1 (.slice q4 l.length c4) l.length (u8s ((D).map inc8))) := by
                show World.ownsRow _ _ _ _ _ _ _
                have h := HOk.out
                rw [show k = (D).length by rw [HDl.out]; omega, upd_all] at h
                exact h
              clear HOk hk hkl
              obtain ⟨w6, hw6⟩ : ∃ x, x = wr := ⟨_, rfl⟩
              subst hw6
              have HR6 : Hid (R w6 p vr l l.length 0) := I.mods HR5.out HMk.out (fun e => (HS4.out p e).1 rfl) (fun j hj e => (HS4.out j e).2.1 hj) (fun j hj e => by have := (HS4.out j e).2.2; have := I.low HT.out; omega)
              have HB6 : Hid (Below w.heap.size w w6) := HB5.out.trans (HMk.out.below HB5.out.size (fun j hj e => by have := (HS4.out j e).2.2; omega))
              rw [HDm.out] at HOe
              have HD6 : Hid (Rd w6 1 (.slice q4 l.length c4) l.length (u8s l)) := Rd.of_owns HOe.out
              have HL6 := Lib.hid (HL.out.below HB6.out)
              have HT6 := Lib.hid (I.tab HR6.out)
              clear HMk HR5 HO5 HB5 HOe
              go_wp2_with fail
              refine (HAL.out _ HT6.out).mono ?_
              rintro en w7 ⟨rfl, hB⟩
              have HR7 := Lib.hid (I.below HR6.out hB)
              have HD7 := Lib.hid (HD6.out.below hB)
              have HB7 := Lib.hid (HB6.out.trans (hB.mono HB6.out.size))
              have HL7 := Lib.hid (HL.out.below HB7.out)
              clear hB HR6 HB6 HL6 HT6 HD6
              go_wp2_with fail
              refine (equal_any _ _ _ _ _ _ _ HD7.out HL7.out HO.out HO.out).mono ?_
              rintro en w8 ⟨rfl, hw⟩
              subst hw
              rw [decide_eq_true (rfl : l = l)]
              clear HL7 HD7
              go_wp2_with fail
              refine (I.fin HR7.out).mono ?_
              rintro en w9 ⟨rfl, hB⟩
              rw [if_neg (fun h => Nat.lt_irrefl _ h.2)]
              have HB9 := Lib.hid (HB7.out.trans (hB.mono HB7.out.size))
              clear hB HR7 HB7
              go_wp2_with fail
              go_ret
              exact ⟨rfl, HB9.out⟩
end Go.Proofs.YtkgghlhmgolfbaaDoor.wireIsolated
