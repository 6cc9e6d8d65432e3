/- Ref02, Ref16A, RdSo, String, Take, From, TakeH, TakeR, ArrL, LyC, LyI, ArrT, in one text. -/
import Derived.Test.YtlgphgipfjlbfaaDoorMrg3
import Derived.Test.YtlgphgipfjlbfaaDoorMrg1
import Derived.Test.YtlgphgipfjlbfaaDoorMrg2
import Derived.Laws.CopyRow
import Derived.RegionTactic
import Derived.Laws.Slices
import Derived.ChangeKeysEq
import Derived.OrdersHeld

section
/- Layer 2: the reference's functions. -/
set_option linter.unusedVariables false
namespace Go.Proofs.YtlgphgipfjlbfaaDoor
open Go Go.RowKit

set_option maxHeartbeats 400000 in
theorem ref_encode (x : Nat) (hx : x < 18446744073709551616) (w : World) :
    Calls Tryd.prog 36 #[.int .u64 (x : Int)] w fun e w' => ∃ r, e = .returned r ∧ Made w w' 5 1 r (groups x).length (u8s (groups x)) := by
  induction x using Nat.strongRecOn generalizing w with
  | _ x ih =>
    by_cases h : x < 128
    · have hlt : (x : Int) < 128 := by omega
      rw [groups_small h]
      clear ih
      go_enter Tryd.func36, Tryd.ntmps36
      go_wp2
      go_ret
      exact ⟨_, rfl, World.ownsRow_lit (base := w.heap.size) w #[.int .u8 (x : Int)] 1 (Nat.le_refl _) (by simp [maxLen]) (by simp), (Below.refl _ _).alloc (Nat.le_refl _) _⟩
    · have hlt : ¬ (x : Int) < 128 := by omega
      have HI := Lib.hid (ih (x / 128) (by omega) (by omega))
      have hlen := groups_len 8 (x / 128) (by omega)
      have hd : ((x / 128 : Nat) : Int) = (x : Int) / 128 := by omega
      have HD := Lib.hid hd
      clear ih hd
      go_enter Tryd.func36, Tryd.ntmps36
      go_wp2_with fail
      rw [← HD.out]
      refine (HI.out _).mono ?_
      rintro e w' ⟨r, rfl, hM⟩
      obtain ⟨rp, rc, hr⟩ := (Rd.of_owns hM.1).shape
      subst hr
      have HR := Lib.hid (Rd.of_owns hM.1)
      have hB : Below w.heap.size w w' := ((Below.refl _ w).alloc (Nat.le_refl _) _).trans (hM.2.mono (by simp))
      have HB := Lib.hid hB
      have HO : Hid (w'.ownsRow 0 5 1 (.slice (some ⟨w.heap.size, 0, none⟩) 1 1) 1 [.int .u8 ((x : Int) % 128 + 128)]) :=
        (Mods.of_below hM.2 (fun _ => False)).owns (World.ownsRow_lit (base := 0) w #[.int .u8 ((x : Int) % 128 + 128)] 1 (Nat.zero_le _) (by simp [maxLen]) (by simp)) (fun _ _ e => e)
      have HL : Hid ((1 + (groups (x / 128)).length) * 1 ≤ 140737488355328 ∧ 1 + (groups (x / 128)).length ≤ maxLen) := by show _ ∧ _; unfold maxLen; omega
      clear hM hB
      go_wp2_with (at_builtin; refine wpList_extend Tryd.elemU8 _ _ _ _ _ _ _ HO.out HR.out (u8s_oneCell _) HL.out rfl _ _ rfl rfl rfl ?_)
      intro v' w2 hown hmods hfr
      have HM : Hid (Made w w2 5 1 v' (groups x).length (u8s (groups x))) := by
        refine ⟨?_, HB.out.trans (hmods.below HB.out.size (fun k hk e => by simp [Value.ownBlock] at e; omega))⟩
        have h2 := owns_rebase hown (base' := w.heap.size) (fun k hk => by
          rcases hfr k hk with e | e
          · simp [Value.ownBlock] at e; omega
          · have := HB.out.size; omega)
        rw [groups_big h, List.length_cons, Nat.add_comm]
        simpa [u8s] using h2
      clear hown hmods hfr
      go_wp2
      go_ret
      exact ⟨_, rfl, HM.out⟩

set_option maxHeartbeats 400000 in
theorem ref_get_arg (v : Value) (l : List Nat) (o : Int) (w : World) (h : Rd w 1 v l.length (u8s l)) (ho : o < 0 ∨ (l.length : Int) < o) :
    Calls Tryd.prog 39 #[v, .int .i64 o] w fun e w' => e = .returned (.tuple #[.int .u64 0, .int .i64 0, .int .i64 2]) ∧ w = w' := by
  obtain ⟨p, c, hv⟩ := h.shape
  subst hv
  clear h
  by_cases hneg : o < 0
  · clear ho
    go_enter Tryd.func39, Tryd.ntmps39
    go_wp2_with fail
    go_ret3
    exact ⟨rfl, rfl⟩
  · have ho' : (l.length : Int) < o := by omega
    clear ho
    go_enter Tryd.func39, Tryd.ntmps39
    go_wp2_with fail
    go_ret3
    exact ⟨rfl, rfl⟩

set_option maxHeartbeats 400000 in
theorem ref_get_in (v : Value) (l : List Nat) (o : Nat) (w : World) (h : Rd w 1 v l.length (u8s l)) (ho : o ≤ l.length) (hl : ∀ c ∈ l, c < 256) :
    Calls Tryd.prog 39 #[v, .int .i64 (o : Int)] w fun e w' => e = .returned (.tuple #[.int .u64 ((readAt l o).1 : Int), .int .i64 (readAt l o).2.1, .int .i64 ((readAt l o).2.2 : Int)]) ∧ w = w' := by
  have hmax : (l.length : Int) ≤ 9223372036854775807 := by have := h.le; unfold maxLen at this; omega
  obtain ⟨p, c, hv⟩ := h.shape
  subst hv
  have hle : ¬ (l.length : Int) < (o : Int) := by omega
  have H2 := Lib.hid h; clear h
  have HM := Lib.hid hl; clear hl
  have HR : Hid (∀ a n e, readFrom (l.drop o) 0 0 = (a, n, e) → readAt l o = (a, (if e = 0 then (o : Int) + n else 0), e)) := fun a n e h => readAt_in ho h
  go_enter Tryd.func39, Tryd.ntmps39
  go_wp2_with fail
  go_loop [7, 8, 9] (fun x n i => ∃ (k y U : Nat), i = .int .i64 (k : Int) ∧ x = .int .u64 (y : Int) ∧ n = .int .u64 (U : Int) ∧ o + k ≤ l.length ∧ k ≤ 9 ∧ y < U ∧ Hid (U = 2 ^ (7 * k)) ∧ U ≤ 9223372036854775808 ∧ Hid (readFrom (l.drop o) 0 0 = readFrom (l.drop (o + k)) k y)) (fun _ _ i => l.length - o - (intOf i).toNat)
  case atStart => exact ⟨0, 0, 1, rfl, rfl, rfl, by omega, by omega, by omega, rfl, by omega, rfl⟩
  case round =>
    obtain ⟨k, y, U, rfl, rfl, rfl, hk, hk9, hy, hU, hU2, hrf⟩ := hrel
    have hok : (o : Int) + (k : Int) ≤ (l.length : Int) := by omega
    by_cases hlt : o + k < l.length
    · have hlt' : ¬ (l.length : Int) ≤ (o : Int) + (k : Int) := by omega
      obtain ⟨b, off, c', e, _, _, hc⟩ := H2.out.at (fun e => by have := congrArg List.length e; rw [u8s_length] at this; simp at this; subst this; simp at hlt)
      simp only [Value.slice.injEq] at e
      obtain ⟨rfl, _, rfl⟩ := e
      obtain ⟨u, hu⟩ : ∃ u, l[o + k] = u := ⟨_, rfl⟩
      have hcell : w.cell? ⟨b, off + (o + k), none⟩ = some (.int .u8 (u : Int)) := by rw [← hu]; exact hc (o + k) _ (u8s_get _ _ hlt)
      have hu256 : u < 256 := hu ▸ HM.out _ (List.getElem_mem hlt)
      have hdrop : l.drop (o + k) = u :: l.drop (o + (k + 1)) := by rw [← hu]; exact List.drop_eq_getElem_cons hlt
      have HF : Hid (readFrom (l.drop o) 0 0 = readFrom (u :: l.drop (o + (k + 1))) k y) := by show _ = _; rw [← hdrop]; exact hrf.out
      clear hc hdrop hrf hu
      by_cases h9 : k = 9 ∧ 1 < u
      · obtain ⟨rfl, h1⟩ := h9
        have h1' : (1 : Int) < (u : Int) := by omega
        have HA := Lib.hid (HR.out 0 0 6 (by rw [HF.out, readFrom, if_pos ⟨rfl, h1⟩]))
        go_wp2
        go_ret3
        exact ⟨by rw [HA.out]; rfl, rfl⟩
      · by_cases hk9' : k = 9
        · subst hk9'
          have h1 : ¬ (1 : Int) < (u : Int) := by omega
          have hUe : U = 9223372036854775808 := hU.out
          subst hUe
          by_cases hu0 : u = 0
          · subst hu0
            have HA := Lib.hid (HR.out 0 0 5 (by rw [HF.out, readFrom, if_neg (by omega), if_neg (by omega), if_pos (by omega)]))
            go_wp2
            go_ret3
            exact ⟨by rw [HA.out]; rfl, rfl⟩
          · obtain rfl : u = 1 := by omega
            have HA := Lib.hid (HR.out (y + 9223372036854775808) 10 0 (by rw [HF.out, readFrom, if_neg (by omega), if_neg (by omega), if_neg (by omega), Nat.one_mul]))
            clear HF HR
            go_wp2
            go_ret3
            exact ⟨by rw [HA.out, if_pos trivial]; rfl, rfl⟩
        · have hk9i : ¬ (k : Int) = 9 := by omega
          have hU3 : U ≤ 72057594037927936 := by rw [hU.out]; exact pow_seven (by omega)
          obtain ⟨hp, hp2⟩ := add_group y u U hy hU3
          have HP := Lib.hid hp; have HP2 := Lib.hid hp2
          have HE : Hid (∀ c : Nat, y + c * U = y + c * 2 ^ (7 * k)) := fun c => by rw [← hU.out]
          have HU1 : Hid (U * 128 = 2 ^ (7 * (k + 1))) := by show _ = _; rw [hU.out, show 7 * (k + 1) = 7 * k + 7 from by omega, Nat.pow_add]
          clear h9 hp hp2
          by_cases hbig : 128 ≤ u
          · have hbig' : ¬ (u : Int) < 128 := by omega
            have HD : Hid (readFrom (l.drop o) 0 0 = readFrom (l.drop (o + (k + 1))) (k + 1) (y + u % 128 * U)) := by show _ = _; rw [HF.out, readFrom, if_neg (by omega), if_pos hbig, HE.out]
            go_wp2
            go_round
            case rel => exact ⟨k + 1, _, U * 128, by go_num, by rw [HP.out], by go_num, by omega, by omega, HP2.out, HU1.out, by omega, HD.out⟩
            case measure => simp [intOf]; omega
          · have hbig' : (u : Int) < 128 := by omega
            clear hU2
            by_cases h0 : u = 0 ∧ 0 < k
            · obtain ⟨rfl, hk0⟩ := h0
              have hk0' : (0 : Int) < (k : Int) := by omega
              have HA := Lib.hid (HR.out 0 0 5 (by rw [HF.out, readFrom, if_neg (by omega), if_neg (by omega), if_pos ⟨rfl, hk0⟩]))
              go_wp2
              go_ret3
              exact ⟨by rw [HA.out]; rfl, rfl⟩
            · have HA := Lib.hid (HR.out (y + u * U) (k + 1) 0 (by rw [HF.out, readFrom, if_neg (by omega), if_neg hbig, if_neg h0, HE.out]))
              have HU : Hid (u % 128 = u) := by show _ = _; omega
              by_cases hu0 : u = 0
              · subst hu0
                obtain rfl : k = 0 := by omega
                obtain rfl : U = 1 := by simpa using hU.out
                obtain rfl : y = 0 := by omega
                rw [Nat.add_zero] at hcell
                clear HP HP2 HE HU1
                go_wp2
                go_ret3
                exact ⟨by rw [HA.out]; simp, rfl⟩
              · have hu0' : ¬ (u : Int) = 0 := by omega
                go_wp2
                go_ret3
                exact ⟨by rw [HA.out, HP.out, HU.out]; simp; omega, rfl⟩
    · have hlt' : (l.length : Int) ≤ (o : Int) + (k : Int) := by omega
      have HA := Lib.hid (HR.out 0 0 3 (by rw [hrf.out, List.drop_eq_nil_of_le (by omega), readFrom]))
      go_wp2
      go_ret3
      exact ⟨by rw [HA.out]; rfl, rfl⟩

theorem ref_get (v : Value) (l : List Nat) (o : Int) (w : World) (h : Rd w 1 v l.length (u8s l)) (hl : ∀ c ∈ l, c < 256) :
    Calls Tryd.prog 39 #[v, .int .i64 o] w fun e w' => e = .returned (.tuple #[.int .u64 ((readAt l o).1 : Int), .int .i64 (readAt l o).2.1, .int .i64 ((readAt l o).2.2 : Int)]) ∧ w = w' := by
  by_cases ho : o < 0 ∨ (l.length : Int) < o
  · rw [show readAt l o = (0, 0, 2) by rw [readAt, if_pos ho]]
    exact ref_get_arg v l o w h ho
  · obtain ⟨k, rfl⟩ : ∃ k : Nat, o = k := ⟨o.toNat, by omega⟩
    exact ref_get_in v l k w h (by omega) hl
end Go.Proofs.YtlgphgipfjlbfaaDoor

end

section
/- Layer 16: the reference's contents; arrays of offsets and of sections. -/
set_option linter.unusedVariables false
set_option maxRecDepth 20000
namespace Go.Proofs.YtlgphgipfjlbfaaDoor
open Go Go.RowKit

def natI (l : List Nat) : List Value := l.map fun n : Nat => .int .i64 (n : Int)
theorem natI_length (l : List Nat) : (natI l).length = l.length := by simp [natI]
theorem natI_get {l : List Nat} {i x : Nat} (h : l[i]? = some x) : (natI l)[i]? = some (.int .i64 (x : Int)) := by simp [natI, h]
/-- Four slices that lead to sections. -/
structure RdS (w : World) (vs : List Value) (S : List (List Nat)) : Prop where
  len : vs.length = S.length
  at_ : ∀ (i : Nat) (v : Value) (d : List Nat), vs[i]? = some v → S[i]? = some d → Rd w 1 v d.length (u8s d)
theorem RdS.below {w w' : World} {vs : List Value} {S : List (List Nat)} (h : RdS w vs S) (hb : Below w.heap.size w w') : RdS w' vs S := ⟨h.len, fun i v d h1 h2 => (h.at_ i v d h1 h2).below hb⟩
theorem RdS.get {w : World} {vs : List Value} {S : List (List Nat)} (h : RdS w vs S) {i : Nat} {d : List Nat} (hd : S[i]? = some d) : ∃ p c, vs[i]? = some (.slice p d.length c) ∧ Rd w 1 (.slice p d.length c) d.length (u8s d) := by
  have hi := (List.getElem?_eq_some_iff.1 hd).1
  obtain ⟨v, hv⟩ : ∃ v, vs[i]? = some v := ⟨_, List.getElem?_eq_getElem (by rw [h.len]; exact hi)⟩
  have hr := h.at_ i v d hv hd
  obtain ⟨p, c, rfl⟩ := hr.shape
  exact ⟨p, c, hv, hr⟩
theorem list4_of {α : Type} {l : List α} (h : l.length = 4) : ∃ a b c d, l = [a, b, c, d] := by
  match l, h with
  | [a, b, c, d], _ => exact ⟨a, b, c, d, rfl⟩
theorem list5_of {α : Type} {l : List α} (h : l.length = 5) : ∃ a b c d e, l = [a, b, c, d, e] := by
  match l, h with
  | [a, b, c, d, e], _ => exact ⟨a, b, c, d, e, rfl⟩
theorem contents_step {l : List Nat} {i x : Nat} (h : l[i]? = some x) : contents (l.take (i + 1)) = contents (l.take i) ++ groups x := by
  rw [List.take_add_one, h]; simp [contents]

set_option maxHeartbeats 4000000 in
theorem ref_contents16 (at_ : List Nat) (w : World) (h5 : at_.length = 5) (hb : ∀ x ∈ at_, x < 9223372036854775808) :
    Calls Tryd.prog 26 #[.agg (natI at_).toArray] w fun e w' => ∃ r, e = .returned r ∧ OwnB w w' (contents (at_.take 4)) r := by
  have HB := Lib.hid hb
  have HL := Lib.hid h5
  clear hb h5
  go_enter Tryd.func26, Tryd.ntmps26
  go_wp2_with (refine wpList_boxA rfl _ _ rfl (natI at_) rfl ?_)
  intro w1 hK hB hS
  have HK := Lib.hid hK; have HB1 := Lib.hid hB
  have HO0 : Hid (OwnB w w1 [] (.slice none 0 0)) := ⟨World.ownsRow_nil _ _ _ _, hB⟩
  have HS := Lib.hid hS
  obtain ⟨g, hg⟩ : ∃ g, w.heap.size = g := ⟨_, rfl⟩
  have HG := Lib.hid hg
  rw [hg] at HK HS ⊢
  clear hK hB hS hg
  go_wp2_with fail
  go_loopw [3, 4] (fun vv iv wr => ∃ (i : Nat), i ≤ 4 ∧ iv = .int .i64 (i : Int) ∧ Hid (OwnB w wr (contents (at_.take i)) vv) ∧ Hid (Blk wr g (natI at_)) ∧ Hid (∀ k, vv.ownBlock = some k → g < k)) (fun _ iv _ => 4 - (intOf iv).toNat)
  case atStart => exact ⟨0, Nat.zero_le _, rfl, HO0.out, HK.out, fun k hk => by cases hk⟩
  case round =>
    obtain ⟨i, hi, rfl, HO, HKr, HV⟩ := hrel
    clear HO0 HK
    obtain ⟨pv, cv, hvv⟩ := HO.out.shape
    subst hvv
    have him : (i : Int) ≤ 4 := by omega
    by_cases hlt : i < 4
    · have hlt' : (i : Int) < 4 := by omega
      obtain ⟨x, hx⟩ : ∃ x, at_[i]? = some x := ⟨_, List.getElem?_eq_getElem (by have := HL.out; omega)⟩
      have hc : wr.cell? ⟨g, i, none⟩ = some (.int .i64 (x : Int)) := by rw [HKr.out.cell, natI_get hx]
      have hxb := HB.out x (List.mem_of_getElem? hx)
      have hw : IntKind.u64.wrap (x : Int) = (x : Int) := by rw [IntKind.wrap_u64]; omega
      have HSt := Lib.hid (contents_step hx)
      have HE := Lib.hid (ref_encode x (by omega) wr)
      have hten := groups_ten (x := x) (by omega)
      have HLn : Hid ((contents (at_.take i)).length ≤ 40 ∧ (groups x).length ≤ 10) := by
        refine ⟨?_, hten⟩
        have h1 := contents_length (l := at_.take i) (fun y hy => by have := HB.out y (List.mem_of_mem_take hy); omega)
        have h2 : (at_.take i).length ≤ i := by rw [List.length_take]; omega
        omega
      clear hx hxb hten
      generalize contents (at_.take i) = acc at *
      obtain ⟨acc2, hacc2⟩ : ∃ acc2, contents (at_.take (i + 1)) = acc2 := ⟨_, rfl⟩
      have HA2 := Lib.hid hacc2
      rw [hacc2] at HSt
      clear hacc2
      have HBd : Hid ((acc.length + (groups x).length) * 1 ≤ 140737488355328 ∧ acc.length + (groups x).length ≤ maxLen) := by show _ ∧ _; have := HLn.out; unfold maxLen; omega
      go_wp2_with fail
      refine HE.out.mono ?_
      rintro en w2 ⟨r, rfl, hM⟩
      have HO2 := Lib.hid (HO.out.below hM.2)
      have HR2 := Lib.hid (Rd.of_owns hM.1)
      have HK2 := Lib.hid (HKr.out.of_same (hM.2.block g HKr.out.lt))
      obtain ⟨p2, c2, hv2⟩ := (Rd.of_owns hM.1).shape
      subst hv2
      have HOz := Lib.hid HO2.out.base0
      have HWs : Hid (g < w2.heap.size) := HK2.out.lt
      clear hM HE HO HKr hc
      go_wp2_with (at_builtin; refine wpList_extend Tryd.elemU8 _ _ _ _ _ _ _ HOz.out HR2.out (u8s_oneCell _) HBd.out rfl _ _ rfl rfl rfl ?_)
      intro v3 w3 k1 m1 f1
      have HO3 : Hid (OwnB w w3 acc2 v3) := by show OwnB _ _ _ _; rw [HSt.out]; exact HO2.out.extended (e := groups x) k1 m1 f1
      have HK3 := Lib.hid (m1.blk HK2.out (fun e => by have := HV.out g e; omega))
      have HV3 : Hid (∀ k, v3.ownBlock = some k → g < k) := fun k hk => by
        rcases f1 k hk with e | e
        · exact HV.out k e
        · have := HWs.out; omega
      obtain ⟨p3, c3, hv3⟩ := HO3.out.shape
      subst hv3
      clear k1 m1 f1 HO2 HK2 HOz HR2 HV HSt HBd HLn hw
      go_wp2_with fail
      go_round
      case rel => exact ⟨i + 1, by omega, by go_num, (by show OwnB _ _ _ _; rw [HA2.out]; exact HO3.out), HK3.out, HV3.out⟩
      case measure => simp [intOf]; omega
    · have hlt' : ¬ (i : Int) < 4 := by omega
      have hi4 : i = 4 := by omega
      subst hi4
      go_wp2_with fail
      go_ret
      exact ⟨_, rfl, HO.out⟩
end Go.Proofs.YtlgphgipfjlbfaaDoor

end

section
/- Layer 16: the sections are one cell each. -/
set_option linter.unusedVariables false
namespace Go.Proofs.YtlgphgipfjlbfaaDoor
open Go Go.RowKit

theorem RdS.one {w : World} {vs : List Value} {S : List (List Nat)} (h : RdS w vs S) : ∀ u ∈ vs, u.oneCell' = true := fun u hu => by
  obtain ⟨i, hi⟩ := List.mem_iff_getElem?.1 hu
  have hl := (List.getElem?_eq_some_iff.1 hi).1
  obtain ⟨d, hd⟩ : ∃ d, S[i]? = some d := ⟨_, List.getElem?_eq_getElem (by rw [← h.len]; exact hl)⟩
  obtain ⟨p, c, hv, _⟩ := h.get hd
  rw [hi] at hv; cases hv; rfl
end Go.Proofs.YtlgphgipfjlbfaaDoor

end

section
/- 'append(b, s...)' of a string; strings and their bytes. No program in sight. -/
namespace Go.Proofs.YtlgphgipfjlbfaaDoor
open Go Go.RowKit

/-- The bytes of a string, as numbers. -/
def numsOf (s : ByteArray) : List Nat := s.data.toList.map fun b => b.toNat
theorem numsOf_length (s : ByteArray) : (numsOf s).length = s.size := by rw [numsOf, List.length_map, Array.length_toList]; rfl
theorem numsOf_lt (s : ByteArray) : ∀ c ∈ numsOf s, c < 256 := by
  intro c hc
  simp only [numsOf, List.mem_map] at hc
  obtain ⟨b, _, rfl⟩ := hc
  exact b.toNat_lt
theorem strOf_numsOf (s : ByteArray) : strOf (numsOf s) = s := by
  obtain ⟨⟨l⟩⟩ := s
  unfold strOf strOfNums numsOf
  congr 1
  simp [List.map_map, Function.comp_def]
theorem numsOf_strOf {l : List Nat} (h : ∀ c ∈ l, c < 256) : numsOf (strOf l) = l := by
  unfold strOf strOfNums numsOf
  simp only [List.map_map]
  conv => rhs; rw [← List.map_id l]
  apply List.map_congr_left
  intro x hx
  simp [Nat.mod_eq_of_lt (h x hx)]
theorem u8s_numsOf (s : ByteArray) : u8s (numsOf s) = s.data.toList.map fun b => Value.int .u8 (b.toNat : Int) := by rw [u8s, numsOf, List.map_map]; rfl

section
variable {P : Program} (w : World)
theorem run_firstCells_str (s : ByteArray) (n : Nat) (hn : s.size = n) (size : Nat) : (Builtin.firstCells size n (.string s)).run P w = .ok (u8s (numsOf s)).toArray w := by
  subst hn
  rw [u8s_numsOf]
  have hx : (s.extract 0 s.size).data = s.data := by
    rw [ByteArray.data_extract]
    exact Array.extract_size
  simp only [Builtin.firstCells, hx, Sem.run_pure]
  congr 1
  apply Array.ext'
  simp

/-- An append of a string to an owned row of bytes. -/
theorem run_app_str (t u ty e : TypeId) (i : TypeInfo) (z : Value) (ht : P.underlying t = some (.slice e)) (hu : P.underlying u = some .string) (hi : P.info? e = some i) (hz : i.zero = some z)
    (hsize : i.size = 1) (hby : i.bytes = 1) (hzs : z.cells.size = 1) (v : Value) (n : Nat) (xs : List Value) (hown : w.ownsRow 0 e 1 v n xs) (s : ByteArray) (h63 : n + s.size ≤ maxLen) (hbytes : (n + s.size) * 1 ≤ 140737488355328) :
    ∃ v' w', (Builtin.append_ #[t, u] ty #[v, .string s]).run P w = .ok v' w' ∧ w'.ownsRow 0 e 1 v' (n + s.size) (xs ++ u8s (numsOf s)) ∧ Mods (fun k => v.ownBlock = some k) w w' ∧ Fresh w.heap.size v v' := by
  have hf := fun w : World => run_firstCells_str (P := P) w s s.size rfl 1
  have hl : (u8s (numsOf s)).length = s.size := by rw [u8s_length, numsOf_length]
  have h1 : ∀ u ∈ u8s (numsOf s), u.oneCell' = true := u8s_oneCell _
  have hlen0 : Builtin.lenOf (.string s) = pure s.size := rfl
  generalize u8s (numsOf s) = news at *
  generalize s.size = M at *
  have hlen : (xs ++ news).length = (n + M) * 1 := by rw [List.length_append, hown.1, hl, Nat.add_mul, Nat.mul_one, Nat.mul_one]
  have h63' : ((n + M : Nat) : Int) ≤ 9223372036854775807 := by unfold maxLen at h63; omega
  rcases hown.2 with ⟨rfl, rfl⟩ | ⟨g, cap, cur, rfl, hb, hg, hnc, hcm, hcs, htake⟩
  · obtain rfl : xs = [] := List.eq_nil_of_length_eq_zero (by simpa using hown.1)
    by_cases h0 : M = 0
    · subst h0
      obtain rfl : news = [] := List.eq_nil_of_length_eq_zero hl
      refine ⟨.slice none 0 0, w, ?_, hown, Mods.refl _ _, Fresh.refl _ _⟩
      simp [Builtin.append_, run_underlying ht, run_underlying hu, sizeOf, typeInfo, hi, hsize, hlen0, hf w]
    · have hn : ¬ M = 0 := h0
      have h63'' : ¬ (9223372036854775807 < (M : Int)) := by omega
      have h48 : ¬ (281474976710656 < Builtin.nextslicecap M 0) := by rw [nextslicecap_zero (by omega)]; omega
      have hge := grownCap_ge w M 0 e
      refine ⟨.slice (some ⟨w.heap.size, 0, none⟩) M (grownCap w M 0 e), w.drew.alloc (.cells (news.toArray ++ Builtin.zeroCells z.cells (grownCap w M 0 e - M)) e), ?_, ⟨by simpa using hl, .inr ⟨w.heap.size, _, _, by rw [Nat.zero_add], Nat.zero_le _, heap_alloc_new w.drew _, by rw [Nat.zero_add]; exact hge, grownCap_le_maxLen w M 0 e (by omega), ?_, ?_⟩⟩, ⟨rfl, rfl, rfl, by simp, fun k hk _ => Below.heap_alloc w.drew _ k hk⟩, ?_⟩
      · simp [Builtin.append_, run_underlying ht, run_underlying hu, sizeOf, typeInfo, zeroValue, hi, hz, hsize, hby, hlen0, hn, h63'', h48, Question.forced, hf w.drew, newRow, grownCap, run_firstCells_none]
      · simp only [Array.size_append, List.size_toArray, size_zeroCells, hzs, hl]
        omega
      · simp [← hl]
      · intro k hk
        simp only [Value.ownBlock, Option.some.injEq] at hk
        exact Or.inr (by omega)
  · by_cases hroom : n + M ≤ cap
    · have hfit : 0 + n + news.length ≤ cur.size := by rw [hl, hcs]; omega
      have hst := run_storeCells_at P g n e news 0 cur w hg (by omega) h1
      refine ⟨.slice (some ⟨g, 0, none⟩) (n + M) cap, w.setRow g (cur.toList.take (n + 0) ++ news ++ cur.toList.drop (n + 0 + news.length)).toArray, ?_, ⟨hlen, .inr ⟨g, cap, _, rfl, Nat.zero_le _, setRow_heap w g cur _ e _ hg, hroom, hcm, ?_, ?_⟩⟩, ⟨rfl, rfl, rfl, by simp, fun k _ hk => setRow_other w g k _ (fun e => hk (by simp [Value.ownBlock, e]))⟩, fun k hk => Or.inl hk⟩
      · have ha : (⟨g, 0, none⟩ : Addr).add n = ⟨g, n, none⟩ := by unfold Addr.add; split <;> simp_all
        simp [Builtin.append_, run_underlying ht, run_underlying hu, sizeOf, typeInfo, hi, hsize, hlen0, hroom, hf w, ha, hst]
      · simp only [List.size_toArray, List.length_append, List.length_take, List.length_drop, Array.length_toList, Nat.add_zero]
        omega
      · have hx : cur.toList.take n = xs := by rw [← htake, Nat.mul_one]
        simp only [Nat.add_zero, hx]
        rw [← hlen]
        exact List.take_left
    · have holds : ∀ j u, xs[j]? = some u → w.cell? ((⟨g, 0, none⟩ : Addr).add j) = some u := hown.cells (g := g) rfl
      have hge := grownCap_ge w (n + M) cap e
      have hxl : xs.length = n * 1 := hown.1
      have hfo := run_firstCells_some (P := P) w.drew 1 n ⟨g, 0, none⟩ n cap xs hxl (by simpa using holds)
      have h63'' : ¬ (9223372036854775807 < ((n : Int) + (M : Int))) := by omega
      have h48 : ¬ (281474976710656 < Builtin.nextslicecap (n + M) cap) := by have := growslice_fits (need := n + M) (old := cap) (bytes := 1) (by omega) hbytes; omega
      refine ⟨.slice (some ⟨w.heap.size, 0, none⟩) (n + M) (grownCap w (n + M) cap e), w.drew.alloc (.cells (xs.toArray ++ news.toArray ++ Builtin.zeroCells z.cells (grownCap w (n + M) cap e - (n + M))) e), ?_, ⟨hlen, .inr ⟨w.heap.size, _, _, rfl, Nat.zero_le _, heap_alloc_new w.drew _, hge, grownCap_le_maxLen w (n + M) cap e h63, ?_, ?_⟩⟩, ⟨rfl, rfl, rfl, by simp, fun k hk _ => Below.heap_alloc w.drew _ k hk⟩, ?_⟩
      · simp [Builtin.append_, run_underlying ht, run_underlying hu, sizeOf, typeInfo, zeroValue, hi, hz, hsize, hby, hlen0, hroom, h63'', h48, Question.forced, hf w.drew, hfo, newRow, grownCap]
        congr 2
        apply Array.ext'
        simp [List.append_assoc]
      · simp only [Array.size_append, List.size_toArray, size_zeroCells, hzs, hl, hxl]
        omega
      · simp only [Array.toList_append, List.append_assoc]
        rw [← List.append_assoc, ← hlen]
        exact List.take_left
      · intro k hk
        simp only [Value.ownBlock, Option.some.injEq] at hk
        exact Or.inr (by omega)

/-- 'append(b, s...)' of a string. -/
theorem wpList_extendStr {t u e : TypeId} (hE : Elem P t e 1 1) (hu : P.underlying u = some .string) (w : World) (v : Value) (n : Nat) (xs : List Value) (hown : w.ownsRow 0 e 1 v n xs) (str : ByteArray) (hb : (n + str.size) * 1 ≤ 140737488355328 ∧ n + str.size ≤ maxLen)
    {ops : Array Oper} {rest : List Oper} {o : Oper} {a : Act} {Q : Exit → Act → World → Prop} (hgd : Region.wanted o (yielded ops a.tmps) = true) (s x : Operand) (ho : o.op = .call { callee := .builtin .append, args := #[s, x], argTypes := #[t, u] })
    (hs : a.eval s = v) (hx : a.eval x = .string str)
    (h : ∀ v' w', w'.ownsRow 0 e 1 v' (n + str.size) (xs ++ u8s (numsOf str)) → Mods (fun k => v.ownBlock = some k) w w' → Fresh w.heap.size v v' → wpList P ops Q rest (a.put o.dst v') w') : wpList P ops Q (o :: rest) a w := by
  obtain ⟨i, z, hi, hz, hsize, hby, hzs⟩ := hE.hi
  refine BigFrame.wpList_want hgd fun K hK => ?_
  obtain ⟨v', w', hr, h2, h3, h4⟩ := run_app_str (P := P) w t u o.type e i z hE.ht hu hi hz hsize hby hzs v n xs hown str hb.2 hb.1
  unfold Oper.wp execOp
  simp only [ho, resolve, invoke, builtin, Sem.run_bind, Sem.run_pure, Result.andThen_ok, List.map_toArray, List.map_cons, List.map_nil, hs, hx, hr]
  exact hK _ _ (h v' w' h2 h3 h4)
end
end Go.Proofs.YtlgphgipfjlbfaaDoor

end

section
/- A region that draws its order, walked in ONE order: all but the calls yield the same in whatever world, so they are taken before a call; the calls come up alone. No program in sight. -/
namespace Go.Proofs.YtlgphgipfjlbfaaDoor
open Go Go.RowKit

/-- The order L is allowed to stand for all: an operation that is no call comes up free; a call comes up alone. -/
def orderB (md : Region.Mode) (ops : Array Oper) (calls : List Nat) : List Nat → Array Bool → Bool
  | [], listed => (Region.ready md ops listed).isEmpty
  | i :: rest, listed => (if calls.contains i then Region.ready md ops listed == [i] else Region.free md ops listed i && (Region.ready md ops listed).contains i) && orderB md ops calls rest (listed.setIfInBounds i true)

/-- The operations of a region in the order L. -/
def taken (l : List Oper) (L : List Nat) : List (Nat × Oper) := L.map fun i => (i, (l[i]?).getD { dst := none, op := .move (.tmp 0), type := 0, pos := "", after := #[], guard := none })

def wpTake (P : Program) (ops : Array Oper) (Q : Exit → Act → World → Prop) (calls : List Nat) : List (Nat × Oper) → Act → World → Prop
  | [], a, w => Q .normal a w
  | (i, o) :: rest, a, w => if Region.wanted o (yielded ops a.tmps) = true then
        (if calls.contains i = true then o.wp P a w (wpTake P ops Q calls rest) Q else ∃ v, (∀ w, (execOp a.eval o).run P w = .ok (.value v) w) ∧ wpTake P ops Q calls rest (a.put o.dst v) w)
      else wpTake P ops Q calls rest (a.put o.dst undef) w

theorem put_defers (a : Act) (d : Option Tmp) (v : Value) : (a.put d v).defers = a.defers := by cases d <;> rfl

section
variable {P : Program} {l : List Oper} {Q : Exit → Act → World → Prop} {md : Region.Mode} {calls : List Nat}

theorem wpAny_of_take (hs : Region.noSelect l.toArray = true) (hQ : ∀ c (a a' : Act) w, a.defers = a'.defers → Q (.panic c) a w → Q (.panic c) a' w) : ∀ (L : List Nat) (listed : Array Bool) (a : Act) (w : World) (fuel : Nat), L.length ≤ fuel →
    (∀ i ∈ L, i < l.length) → orderB md l.toArray calls L listed = true → wpTake P l.toArray Q calls (taken l L) a w → wpAny P md l.toArray Q fuel listed a w
  | [], listed, a, w, fuel, _, _, hB, h => wpAny_done (by simpa [orderB] using hB) h fuel
  | i :: rest, listed, a, w, 0, hf, _, _, _ => by simp at hf
  | i :: rest, listed, a, w, fuel + 1, hf, hl, hB, h => by
    have hf' : rest.length ≤ fuel := by simpa using hf
    have hl' : ∀ j ∈ rest, j < l.length := fun j hj => hl j (by simp [hj])
    have hi : i < l.length := hl i (by simp)
    unfold orderB at hB
    rw [Bool.and_eq_true] at hB
    obtain ⟨h1, h2⟩ := hB
    have ho : l.toArray[i]? = some l[i] := by simp [hi]
    have e : taken l (i :: rest) = (i, l[i]) :: taken l rest := by simp [taken, hi]
    rw [e] at h
    unfold wpTake at h
    generalize l[i] = o at *
    by_cases hc : calls.contains i = true
    · rw [if_pos hc] at h1 h
      have hr : Region.ready md l.toArray listed = [i] := by simpa using h1
      refine wpAny_all hr (by simp) (fun j hj => ?_)
      obtain rfl : j = i := by simpa using hj
      unfold wpOp
      simp only [ho]
      split
      · next hw =>
        rw [if_pos hw] at h
        exact .inl (Oper.wp_mono (fun a w h => wpAny_of_take hs hQ rest _ a w fuel hf' hl' h2 h) h)
      · next hw =>
        rw [if_neg hw] at h
        exact wpAny_of_take hs hQ rest _ _ w fuel hf' hl' h2 h
    · rw [if_neg hc] at h1 h
      rw [Bool.and_eq_true] at h1
      by_cases hw : Region.wanted o (yielded l.toArray a.tmps) = true
      · rw [if_pos hw] at h
        obtain ⟨v, hv, h⟩ := h
        exact wpAny_take ho hs h1.1 h1.2 (fun c a w h => hQ c _ _ w (put_defers _ _ _) h) (.inl ⟨hw, hv⟩) (wpAny_of_take hs hQ rest _ _ w fuel hf' hl' h2 h)
      · rw [if_neg hw] at h
        exact wpAny_take ho hs h1.1 h1.2 (fun c a w h => hQ c _ _ w (put_defers _ _ _) h) (.inr ⟨by simpa using hw, rfl⟩) (wpAny_of_take hs hQ rest _ _ w fuel hf' hl' h2 h)

/-- A region that draws its order, by one order of it. -/
theorem wp_region_take {id : Nat} {a : Act} {w : World} (calls L : List Nat) (hm : P.follows .mixedOrders = true) (hs : Region.noSelect l.toArray = true) (hB : (decide (L.length ≤ l.length) && (L.all (fun i => decide (i < l.length)) && orderB .any l.toArray calls L (Array.replicate l.length false))) = true)
    (hQ : ∀ c (a a' : Act) w, a.defers = a'.defers → Q (.panic c) a w → Q (.panic c) a' w) (h : wpTake P l.toArray Q calls (taken l L) a w.drew) : (Code.region id l.toArray true).wp P Q a w := by
  rw [Bool.and_eq_true, Bool.and_eq_true] at hB
  refine wp_region_any hm (wpAny_of_take hs hQ L _ a _ _ (by simpa using hB.1) (by simpa using hB.2.1) (by simpa using hB.2.2) h)

variable {ops : Array Oper}
theorem take_nil {a : Act} {w : World} (h : Q .normal a w) : wpTake P ops Q calls [] a w := h
theorem take_skip {i : Nat} {o : Oper} {rest : List (Nat × Oper)} {a : Act} {w : World} (hw : Region.wanted o (yielded ops a.tmps) = false) (h : wpTake P ops Q calls rest (a.put o.dst undef) w) : wpTake P ops Q calls ((i, o) :: rest) a w := by
  unfold wpTake
  simp only [hw]
  exact h
theorem take_move {i : Nat} {o : Oper} {rest : List (Nat × Oper)} {a : Act} {w : World} (x : Operand) (hx : o.op = .move x ∨ o.op = .assign x) (hc : calls.contains i = false) (hw : Region.wanted o (yielded ops a.tmps) = true)
    (h : wpTake P ops Q calls rest (a.put o.dst (a.eval x)) w) : wpTake P ops Q calls ((i, o) :: rest) a w := by
  unfold wpTake
  simp only [hw, hc]
  refine ⟨_, fun w => ?_, h⟩
  rcases hx with hx | hx <;> unfold execOp <;> simp [hx]
theorem take_blind {i : Nat} {o : Oper} {rest : List (Nat × Oper)} {a : Act} {w : World} (hc : calls.contains i = false) (hw : Region.wanted o (yielded ops a.tmps) = true)
    (h : ∃ v, (∀ w, (execOp a.eval o).run P w = .ok (.value v) w) ∧ wpTake P ops Q calls rest (a.put o.dst v) w) : wpTake P ops Q calls ((i, o) :: rest) a w := by
  unfold wpTake
  simp only [hw, hc]
  exact h
theorem take_call {i : Nat} {o : Oper} {rest : List (Nat × Oper)} {a : Act} {w : World} (hc : calls.contains i = true) (hw : Region.wanted o (yielded ops a.tmps) = true)
    (h : ∀ K : Act → World → Prop, (∀ a w, wpTake P ops Q calls rest a w → K a w) → o.wp P a w K Q) : wpTake P ops Q calls ((i, o) :: rest) a w := by
  unfold wpTake
  simp only [hw, hc]
  exact h _ (fun _ _ h => h)
end
end Go.Proofs.YtlgphgipfjlbfaaDoor

end

section
/- 's[i:]' of a slice that is read. No program in sight. -/
namespace Go.Proofs.YtlgphgipfjlbfaaDoor
open Go Go.RowKit

theorem Addr.add_add (ad : Addr) (i j : Nat) : (ad.add i).add j = ad.add (i + j) := by
  unfold Addr.add
  by_cases hi : i = 0
  · simp [hi]
  · by_cases hj : j = 0
    · simp [hi, hj]
    · simp [hi, hj, Nat.add_assoc]

theorem Rd.from {w : World} {sz : Nat} {p : Option Addr} {n c : Nat} {vs : List Value} (h : Rd w sz (.slice p n c) n vs) (i : Nat) (hi : i ≤ n) :
    Rd w sz (sliced p i n c sz) (n - i) (vs.drop (i * sz)) := by
  obtain ⟨p', c', e, h1, h2, h3, h4, h5⟩ := h
  cases e
  refine ⟨_, _, rfl, by rw [List.length_drop, h1, Nat.sub_mul], by omega, by omega, ?_, ?_⟩
  · intro hp
    split at hp
    · obtain ⟨rfl, rfl⟩ := h4 hp; simp
    · cases p with
      | none => obtain ⟨rfl, rfl⟩ := h4 rfl; simp
      | some a => simp at hp
  · intro ad had j u hu
    rw [List.getElem?_drop] at hu
    split at had
    · next hc =>
      have hlt := (List.getElem?_eq_some_iff.1 hu).1
      rw [h1] at hlt
      have : n = i := by omega
      subst this
      omega
    · cases p with
      | none => simp at had
      | some a =>
        simp only [Option.map_some, Option.some.injEq] at had
        subst had
        rw [Addr.add_add]
        exact h5 a rfl _ u hu

theorem Rd.upto {w : World} {sz : Nat} {p : Option Addr} {n c : Nat} {vs : List Value} (h : Rd w sz (.slice p n c) n vs) (i : Nat) (hi : i ≤ n) :
    Rd w sz (.slice p i c) i (vs.take (i * sz)) := by
  obtain ⟨p', c', e, h1, h2, h3, h4, h5⟩ := h
  cases e
  refine ⟨_, _, rfl, ?_, by omega, by omega, fun e => ?_, ?_⟩
  · rw [List.length_take, h1]
    exact Nat.min_eq_left (Nat.mul_le_mul_right _ hi)
  · obtain ⟨rfl, rfl⟩ := h4 e; exact ⟨by omega, rfl⟩
  · intro ad had j u hu
    refine h5 ad had j u ?_
    rw [List.getElem?_take] at hu
    split at hu
    · exact hu
    · cases hu
theorem Rd.fromTo {w : World} {sz : Nat} {p : Option Addr} {n c : Nat} {vs : List Value} (h : Rd w sz (.slice p n c) n vs) (i k : Nat) (hi : i ≤ k) (hk : k ≤ n) :
    Rd w sz (sliced p i k c sz) (k - i) ((vs.take (k * sz)).drop (i * sz)) := (h.upto k hk).from i hi
theorem sliced_zero (p : Option Addr) (n c sz : Nat) : sliced p 0 n c sz = .slice p n c := by
  unfold sliced
  split
  · simp
  · cases p with
    | none => simp
    | some a => simp [Addr.add]

section
variable {P : Program}
theorem wpList_upto {t e : TypeId} {sz bytes : Nat} (hE : Elem P t e sz bytes) (w : World) (p : Option Addr) (n c i : Nat) (hi : i ≤ n) (hnc : n ≤ c)
    {ops : Array Oper} {rest : List Oper} {o : Oper} {a : Act} {Q : Exit → Act → World → Prop} (hgd : Region.wanted o (yielded ops a.tmps) = true) (s x : Operand) (ho : o.op = .slice t s none (some x) none)
    (hs : a.eval s = .slice p n c) (hx : a.eval x = .int .i64 (i : Int))
    (h : wpList P ops Q rest (a.put o.dst (.slice p i c)) w) : wpList P ops Q (o :: rest) a w := by
  obtain ⟨inf, z, hinf, hz, hsize, hby, hzs⟩ := hE.hi
  refine BigFrame.wpList_want hgd fun K hK => ?_
  have helem : P.elem t = e := by simp [Program.elem, hE.ht]
  have hu : P.underlying t = some (.slice (P.elem t)) := by rw [helem]; exact hE.ht
  have hcell : P.cellsOf (P.elem t) = sz := by rw [helem]; simp [Program.cellsOf, hinf, hsize]
  have hr : (Instr.sliceAt t (.slice p n c) none (some (.int .i64 (i : Int))) none).run P w = .ok (.slice p i c) w := by
    have hsz := run_sizeOf (w := w) (show P.info? (P.elem t) = some inf by rw [helem]; exact hinf)
    rw [run_sliceAt_slice (h := hu), run_slice_h (ht := hu) (h0 := by omega) (h2 := by omega), hsz, hcell]
    simp only [Result.andThen, Int.toNat_natCast, sliced_zero]
  unfold Oper.wp execOp
  simp only [ho, Sem.run_bind, Sem.run_pure, Result.andThen_ok, hs, hx, hr, Option.map_some, Option.map_none]
  exact hK _ _ h
theorem wpList_from {t e : TypeId} {sz bytes : Nat} (hE : Elem P t e sz bytes) (w : World) (v : Value) (n i : Nat) (vs : List Value) (h0 : Rd w sz v n vs) (hi : i ≤ n)
    {ops : Array Oper} {rest : List Oper} {o : Oper} {a : Act} {Q : Exit → Act → World → Prop} (hgd : Region.wanted o (yielded ops a.tmps) = true) (s x : Operand) (ho : o.op = .slice t s (some x) none none)
    (hs : a.eval s = v) (hx : a.eval x = .int .i64 (i : Int))
    (h : ∀ p c, Rd w sz (.slice p (n - i) c) (n - i) (vs.drop (i * sz)) → wpList P ops Q rest (a.put o.dst (.slice p (n - i) c)) w) : wpList P ops Q (o :: rest) a w := by
  obtain ⟨inf, z, hinf, hz, hsize, hby, hzs⟩ := hE.hi
  obtain ⟨p, c, hv⟩ := h0.shape
  subst hv
  refine BigFrame.wpList_want hgd fun K hK => ?_
  have helem : P.elem t = e := by simp [Program.elem, hE.ht]
  have hu : P.underlying t = some (.slice (P.elem t)) := by rw [helem]; exact hE.ht
  have hcell : P.cellsOf (P.elem t) = sz := by rw [helem]; simp [Program.cellsOf, hinf, hsize]
  have hr : (Instr.sliceAt t (.slice p n c) (some (.int .i64 (i : Int))) none none).run P w = .ok (sliced p i n c sz) w := by
    have hsz := run_sizeOf (w := w) (show P.info? (P.elem t) = some inf by rw [helem]; exact hinf)
    rw [run_sliceAt_slice (h := hu), run_slice_l (ht := hu) (h0 := by omega) (h1 := by omega), hsz, hcell]
    simp [Result.andThen]
  unfold Oper.wp execOp
  simp only [ho, Sem.run_bind, Sem.run_pure, Result.andThen_ok, hs, hx, hr, Option.map_some, Option.map_none]
  exact hK _ _ (h _ _ (h0.from i hi))
end
end Go.Proofs.YtlgphgipfjlbfaaDoor

end

section
/- A region that draws its order, walked in ONE order, where operations beside the calls may read memory: a condition S on the world, which every call keeps, says what they read. No program in sight. -/
namespace Go.Proofs.YtlgphgipfjlbfaaDoor
open Go Go.RowKit

def wpTakeH (P : Program) (ops : Array Oper) (Q : Exit → Act → World → Prop) (calls : List Nat) (S : World → Prop) : List (Nat × Oper) → Act → World → Prop
  | [], a, w => Q .normal a w
  | (i, o) :: rest, a, w => if Region.wanted o (yielded ops a.tmps) = true then
        (if calls.contains i = true then o.wp P a w (fun a' w' => S w' ∧ wpTakeH P ops Q calls S rest a' w') Q else ∃ v, (∀ w, S w → (execOp a.eval o).run P w = .ok (.value v) w) ∧ wpTakeH P ops Q calls S rest (a.put o.dst v) w)
      else wpTakeH P ops Q calls S rest (a.put o.dst undef) w

section
variable {P : Program} {l : List Oper} {Q : Exit → Act → World → Prop} {md : Region.Mode} {calls : List Nat} {S : World → Prop}

theorem wpAnyH_of_take (hs : Region.noSelect l.toArray = true) (hQ : ∀ c (a a' : Act) w, a.defers = a'.defers → Q (.panic c) a w → Q (.panic c) a' w) : ∀ (L : List Nat) (listed : Array Bool) (a : Act) (w : World) (fuel : Nat), L.length ≤ fuel →
    (∀ i ∈ L, i < l.length) → orderB md l.toArray calls L listed = true → S w → wpTakeH P l.toArray Q calls S (taken l L) a w → wpAnyH P md l.toArray Q S fuel listed a w
  | [], listed, a, w, fuel, _, _, hB, _, h => wpAnyH_done (by simpa [orderB] using hB) h fuel
  | i :: rest, listed, a, w, 0, hf, _, _, _, _ => by simp at hf
  | i :: rest, listed, a, w, fuel + 1, hf, hl, hB, hS, h => by
    have hf' : rest.length ≤ fuel := by simpa using hf
    have hl' : ∀ j ∈ rest, j < l.length := fun j hj => hl j (by simp [hj])
    have hi : i < l.length := hl i (by simp)
    unfold orderB at hB
    rw [Bool.and_eq_true] at hB
    obtain ⟨h1, h2⟩ := hB
    have ho : l.toArray[i]? = some l[i] := by simp [hi]
    have e : taken l (i :: rest) = (i, l[i]) :: taken l rest := by simp [taken, hi]
    rw [e] at h
    unfold wpTakeH at h
    generalize l[i] = o at *
    by_cases hc : calls.contains i = true
    · rw [if_pos hc] at h1 h
      have hr : Region.ready md l.toArray listed = [i] := by simpa using h1
      refine wpAnyH_all hr (by simp) (fun j hj => ?_)
      obtain rfl : j = i := by simpa using hj
      unfold wpOp
      simp only [ho]
      split
      · next hw =>
        rw [if_pos hw] at h
        exact .inl (Oper.wp_mono (fun a w h => ⟨h.1, wpAnyH_of_take hs hQ rest _ a w fuel hf' hl' h2 h.1 h.2⟩) h)
      · next hw =>
        rw [if_neg hw] at h
        exact ⟨hS, wpAnyH_of_take hs hQ rest _ _ w fuel hf' hl' h2 hS h⟩
    · rw [if_neg hc] at h1 h
      rw [Bool.and_eq_true] at h1
      by_cases hw : Region.wanted o (yielded l.toArray a.tmps) = true
      · rw [if_pos hw] at h
        obtain ⟨v, hv, h⟩ := h
        exact wpAnyH_take ho hs h1.1 h1.2 (fun c a w h => hQ c _ _ w (put_defers _ _ _) h) (.inl ⟨hw, hv⟩) hS (wpAnyH_of_take hs hQ rest _ _ w fuel hf' hl' h2 hS h)
      · rw [if_neg hw] at h
        exact wpAnyH_take ho hs h1.1 h1.2 (fun c a w h => hQ c _ _ w (put_defers _ _ _) h) (.inr ⟨by simpa using hw, rfl⟩) hS (wpAnyH_of_take hs hQ rest _ _ w fuel hf' hl' h2 hS h)

theorem wp_region_takeH {id : Nat} {a : Act} {w : World} (S : World → Prop) (calls L : List Nat) (hm : P.follows .mixedOrders = true) (hs : Region.noSelect l.toArray = true) (hB : (decide (L.length ≤ l.length) && (L.all (fun i => decide (i < l.length)) && orderB .any l.toArray calls L (Array.replicate l.length false))) = true)
    (hQ : ∀ c (a a' : Act) w, a.defers = a'.defers → Q (.panic c) a w → Q (.panic c) a' w) (hS : S w.drew) (h : wpTakeH P l.toArray Q calls S (taken l L) a w.drew) : (Code.region id l.toArray true).wp P Q a w := by
  rw [Bool.and_eq_true, Bool.and_eq_true] at hB
  refine wp_region_held hm (wpAnyH_of_take hs hQ L _ a _ _ (by simpa using hB.1) (by simpa using hB.2.1) (by simpa using hB.2.2) hS h)

variable {ops : Array Oper}
theorem takeH_nil {a : Act} {w : World} (h : Q .normal a w) : wpTakeH P ops Q calls S [] a w := h
theorem takeH_skip {i : Nat} {o : Oper} {rest : List (Nat × Oper)} {a : Act} {w : World} (hw : Region.wanted o (yielded ops a.tmps) = false) (h : wpTakeH P ops Q calls S rest (a.put o.dst undef) w) : wpTakeH P ops Q calls S ((i, o) :: rest) a w := by
  unfold wpTakeH
  simp only [hw]
  exact h
theorem takeH_blind {i : Nat} {o : Oper} {rest : List (Nat × Oper)} {a : Act} {w : World} (hc : calls.contains i = false) (hw : Region.wanted o (yielded ops a.tmps) = true)
    (h : ∃ v, (∀ w, (execOp a.eval o).run P w = .ok (.value v) w) ∧ wpTakeH P ops Q calls S rest (a.put o.dst v) w) : wpTakeH P ops Q calls S ((i, o) :: rest) a w := by
  unfold wpTakeH
  simp only [hw, hc]
  obtain ⟨v, h1, h2⟩ := h
  exact ⟨v, fun w _ => h1 w, h2⟩
/-- An operation that reads memory: what it yields holds in every world that meets S. -/
theorem takeH_read {i : Nat} {o : Oper} {rest : List (Nat × Oper)} {a : Act} {w : World} (hc : calls.contains i = false) (hw : Region.wanted o (yielded ops a.tmps) = true) (v : Value)
    (h1 : ∀ w, S w → (execOp a.eval o).run P w = .ok (.value v) w) (h : wpTakeH P ops Q calls S rest (a.put o.dst v) w) : wpTakeH P ops Q calls S ((i, o) :: rest) a w := by
  unfold wpTakeH
  simp only [hw, hc]
  exact ⟨v, h1, h⟩
theorem takeH_call {i : Nat} {o : Oper} {rest : List (Nat × Oper)} {a : Act} {w : World} (hc : calls.contains i = true) (hw : Region.wanted o (yielded ops a.tmps) = true)
    (h : ∀ K : Act → World → Prop, (∀ a w, S w → wpTakeH P ops Q calls S rest a w → K a w) → o.wp P a w K Q) : wpTakeH P ops Q calls S ((i, o) :: rest) a w := by
  unfold wpTakeH
  simp only [hw, hc]
  exact h (fun a' w' => S w' ∧ wpTakeH P ops Q calls S rest a' w') (fun _ _ h1 h2 => ⟨h1, h2⟩)
/-- An operation that comes up alone, run in the world at hand. -/
theorem takeH_now {i : Nat} {o : Oper} {rest : List (Nat × Oper)} {a : Act} {w : World} (hc : calls.contains i = true) (hw : Region.wanted o (yielded ops a.tmps) = true) (v : Value) (h1 : (execOp a.eval o).run P w = .ok (.value v) w) (hS : S w)
    (h : wpTakeH P ops Q calls S rest (a.put o.dst v) w) : wpTakeH P ops Q calls S ((i, o) :: rest) a w := by
  unfold wpTakeH
  simp only [hw, hc]
  show o.wp P a w (fun a' w' => S w' ∧ wpTakeH P ops Q calls S rest a' w') Q
  unfold Oper.wp
  rw [h1]
  exact ⟨hS, h⟩

/-- What 's[:i]' yields. -/
theorem exec_upto {t e : TypeId} {sz bytes : Nat} (hE : Elem P t e sz bytes) (w : World) (p : Option Addr) (n c i : Nat) (hi : i ≤ n) (hnc : n ≤ c) {o : Oper} {a : Act} (s x : Operand) (ho : o.op = .slice t s none (some x) none)
    (hs : a.eval s = .slice p n c) (hx : a.eval x = .int .i64 (i : Int)) : (execOp a.eval o).run P w = .ok (.value (.slice p i c)) w := by
  obtain ⟨inf, z, hinf, hz, hsize, hby, hzs⟩ := hE.hi
  have helem : P.elem t = e := by simp [Program.elem, hE.ht]
  have hu : P.underlying t = some (.slice (P.elem t)) := by rw [helem]; exact hE.ht
  have hcell : P.cellsOf (P.elem t) = sz := by rw [helem]; simp [Program.cellsOf, hinf, hsize]
  have hr : (Instr.sliceAt t (.slice p n c) none (some (.int .i64 (i : Int))) none).run P w = .ok (.slice p i c) w := by
    have hsz := run_sizeOf (w := w) (show P.info? (P.elem t) = some inf by rw [helem]; exact hinf)
    rw [run_sliceAt_slice (h := hu), run_slice_h (ht := hu) (h0 := by omega) (h2 := by omega), hsz, hcell]
    simp only [Result.andThen, Int.toNat_natCast, sliced_zero]
  unfold execOp
  simp only [ho, Sem.run_bind, Sem.run_pure, Result.andThen_ok, hs, hx, hr, Option.map_some, Option.map_none]
/-- What 's[i:]' yields. -/
theorem exec_from {t e : TypeId} {sz bytes : Nat} (hE : Elem P t e sz bytes) (w : World) (p : Option Addr) (n c i : Nat) (hi : i ≤ n) {o : Oper} {a : Act} (s x : Operand) (ho : o.op = .slice t s (some x) none none)
    (hs : a.eval s = .slice p n c) (hx : a.eval x = .int .i64 (i : Int)) : (execOp a.eval o).run P w = .ok (.value (sliced p i n c sz)) w := by
  obtain ⟨inf, z, hinf, hz, hsize, hby, hzs⟩ := hE.hi
  have helem : P.elem t = e := by simp [Program.elem, hE.ht]
  have hu : P.underlying t = some (.slice (P.elem t)) := by rw [helem]; exact hE.ht
  have hcell : P.cellsOf (P.elem t) = sz := by rw [helem]; simp [Program.cellsOf, hinf, hsize]
  have hr : (Instr.sliceAt t (.slice p n c) (some (.int .i64 (i : Int))) none none).run P w = .ok (sliced p i n c sz) w := by
    have hsz := run_sizeOf (w := w) (show P.info? (P.elem t) = some inf by rw [helem]; exact hinf)
    rw [run_sliceAt_slice (h := hu), run_slice_l (ht := hu) (h0 := by omega) (h1 := by omega), hsz, hcell]
    simp [Result.andThen]
  unfold execOp
  simp only [ho, Sem.run_bind, Sem.run_pure, Result.andThen_ok, hs, hx, hr, Option.map_some, Option.map_none]
/-- What a conversion yields. -/
theorem exec_convert {o : Oper} {a : Act} {w : World} (src dst : TypeId) (s : Operand) {v u : Value} (ho : o.op = .convert src dst s) (hs : a.eval s = v) (h : (convert src dst v).run P w = .ok u w) : (execOp a.eval o).run P w = .ok (.value u) w := by
  unfold execOp
  simp only [ho, Sem.run_bind, Sem.run_pure, Result.andThen_ok, hs, h]
end
end Go.Proofs.YtlgphgipfjlbfaaDoor

end

section
/- More steps of a drawing region that is walked in one order: loads under the region's condition; operations that make memory, alone. No program in sight. -/
namespace Go.Proofs.YtlgphgipfjlbfaaDoor
open Go Go.RowKit

section
variable {P : Program} {ops : Array Oper} {Q : Exit → Act → World → Prop} {calls : List Nat} {S : World → Prop}
/-- An operation that reads memory. -/
theorem takeH_reads {i : Nat} {o : Oper} {rest : List (Nat × Oper)} {a : Act} {w : World} (hc : calls.contains i = false) (hw : Region.wanted o (yielded ops a.tmps) = true)
    (h : ∃ v, (∀ w, S w → (execOp a.eval o).run P w = .ok (.value v) w) ∧ wpTakeH P ops Q calls S rest (a.put o.dst v) w) : wpTakeH P ops Q calls S ((i, o) :: rest) a w := by
  obtain ⟨v, h1, h2⟩ := h
  exact takeH_read hc hw v h1 h2
/-- An operation that comes up alone and makes memory. -/
theorem takeH_run {i : Nat} {o : Oper} {rest : List (Nat × Oper)} {a : Act} {w : World} (hc : calls.contains i = true) (hw : Region.wanted o (yielded ops a.tmps) = true) (v : Value) (w2 : World) (h1 : (execOp a.eval o).run P w = .ok (.value v) w2) (hS : S w2)
    (h : wpTakeH P ops Q calls S rest (a.put o.dst v) w2) : wpTakeH P ops Q calls S ((i, o) :: rest) a w := by
  unfold wpTakeH
  simp only [hw, hc]
  show o.wp P a w (fun a' w' => S w' ∧ wpTakeH P ops Q calls S rest a' w') Q
  unfold Oper.wp
  rw [h1]
  exact ⟨hS, h⟩
/-- What 's[i:k]' yields. -/
theorem exec_fromTo {t e : TypeId} {sz bytes : Nat} (hE : Elem P t e sz bytes) (w : World) (p : Option Addr) (n c i k : Nat) (hi : i ≤ k) (hk : k ≤ c) {o : Oper} {a : Act} (s x y : Operand) (ho : o.op = .slice t s (some x) (some y) none)
    (hs : a.eval s = .slice p n c) (hx : a.eval x = .int .i64 (i : Int)) (hy : a.eval y = .int .i64 (k : Int)) : (execOp a.eval o).run P w = .ok (.value (sliced p i k c sz)) w := by
  obtain ⟨inf, z, hinf, hz, hsize, hby, hzs⟩ := hE.hi
  have helem : P.elem t = e := by simp [Program.elem, hE.ht]
  have hu : P.underlying t = some (.slice (P.elem t)) := by rw [helem]; exact hE.ht
  have hcell : P.cellsOf (P.elem t) = sz := by rw [helem]; simp [Program.cellsOf, hinf, hsize]
  have hr : (Instr.sliceAt t (.slice p n c) (some (.int .i64 (i : Int))) (some (.int .i64 (k : Int))) none).run P w = .ok (sliced p i k c sz) w := by
    have hsz := run_sizeOf (w := w) (show P.info? (P.elem t) = some inf by rw [helem]; exact hinf)
    rw [run_sliceAt_slice (h := hu), run_slice_lh (ht := hu) (h0 := by omega) (h1 := by omega) (h2 := by omega), hsz, hcell]
    simp [Result.andThen]
  unfold execOp
  simp only [ho, Sem.run_bind, Sem.run_pure, Result.andThen_ok, hs, hx, hy, hr, Option.map_some, Option.map_none]
/-- What 'append(s, x...)' yields. -/
theorem exec_extend {t e : TypeId} {sz bytes : Nat} (hE : Elem P t e sz bytes) (w : World) (v v2 : Value) (n m : Nat) (xs news : List Value) (hown : w.ownsRow 0 e sz v n xs) (hr : Rd w sz v2 m news) (h1 : ∀ u ∈ news, u.oneCell' = true) (hb : (n + m) * bytes ≤ 140737488355328 ∧ n + m ≤ maxLen)
    {o : Oper} {a : Act} (s x : Operand) (ho : o.op = .call { callee := .builtin .append, args := #[s, x], argTypes := #[t, t] }) (hs : a.eval s = v) (hx : a.eval x = v2) :
    ∃ v' w', (execOp a.eval o).run P w = .ok (.value v') w' ∧ w'.ownsRow 0 e sz v' (n + m) (xs ++ news) ∧ Mods (fun k => v.ownBlock = some k) w w' ∧ Fresh w.heap.size v v' := by
  obtain ⟨i, z, hi, hz, hsize, hby, hzs⟩ := hE.hi
  obtain ⟨p, c, rfl, hl, hc1, hc2, hnil, hcell⟩ := hr
  cases p with
  | none =>
    obtain ⟨rfl, rfl⟩ := hnil rfl
    obtain rfl : news = [] := List.eq_nil_of_length_eq_zero (by simpa using hl)
    have hr := run_append_owned_none (P := P) w 0 t o.type e i sz hE.ht hi v n xs hown
    refine ⟨v, w, ?_, by simpa using hown, Mods.refl _ _, Fresh.refl _ _⟩
    unfold execOp
    simp only [ho, resolve, invoke, builtin, Sem.run_bind, Sem.run_pure, Result.andThen_ok, List.map_toArray, List.map_cons, List.map_nil, hs, hx, hr]
  | some ad =>
    obtain ⟨v', w', hr, h2, h3, h4⟩ := run_app (P := P) w t o.type e i z sz bytes hE.ht hi hz hsize hby hzs hE.pos v n xs hown ad m c news hl (hcell ad rfl) h1 hb.2 hb.1
    refine ⟨v', w', ?_, h2, h3, h4⟩
    unfold execOp
    simp only [ho, resolve, invoke, builtin, Sem.run_bind, Sem.run_pure, Result.andThen_ok, List.map_toArray, List.map_cons, List.map_nil, hs, hx, hr]
/-- 'append(s, x...)', alone. -/
theorem takeH_extend {t e : TypeId} {sz bytes : Nat} (hE : Elem P t e sz bytes) {i : Nat} {o : Oper} {rest : List (Nat × Oper)} {a : Act} {w : World} (hc : calls.contains i = true) (hw : Region.wanted o (yielded ops a.tmps) = true) (s x : Operand)
    (ho : o.op = .call { callee := .builtin .append, args := #[s, x], argTypes := #[t, t] }) {v v2 : Value} (hs : a.eval s = v) (hx : a.eval x = v2) {n m : Nat} {xs news : List Value} (hown : w.ownsRow 0 e sz v n xs) (hr : Rd w sz v2 m news) (h1 : ∀ u ∈ news, u.oneCell' = true) (hb : (n + m) * bytes ≤ 140737488355328 ∧ n + m ≤ maxLen)
    (h : ∀ v' w', w'.ownsRow 0 e sz v' (n + m) (xs ++ news) → Mods (fun k => v.ownBlock = some k) w w' → Fresh w.heap.size v v' → S w' ∧ wpTakeH P ops Q calls S rest (a.put o.dst v') w') : wpTakeH P ops Q calls S ((i, o) :: rest) a w := by
  obtain ⟨v', w', hrun, h2, h3, h4⟩ := exec_extend hE w v v2 n m xs news hown hr h1 hb s x ho hs hx
  obtain ⟨h5, h6⟩ := h v' w' h2 h3 h4
  exact takeH_run hc hw v' w' hrun h5 h6
end
end Go.Proofs.YtlgphgipfjlbfaaDoor

end

section
/- Layer 16: the types of its arrays. -/
set_option linter.unusedVariables false
set_option maxRecDepth 20000
namespace Go.Proofs.YtlgphgipfjlbfaaDoor
open Go Go.RowKit


theorem arrB : Arr Tryd.prog 23 22 4 (.slice none 0 0) := Arr.mk' Tryd.underlying23 (by kernel_rfl) (by kernel_rfl) Tryd.underlying22 rfl

theorem arrI : Arr Tryd.prog 29 3 5 (.int .i64 0) := Arr.mk' Tryd.underlying29 (by kernel_rfl) (by kernel_rfl) Tryd.underlying3 rfl
end Go.Proofs.YtlgphgipfjlbfaaDoor

end

section
/- Layer 16, pure: the error that all files with some beginning have. (Cut from XLyI.) No program in sight. -/
set_option linter.unusedVariables false
namespace Go.Proofs.YtlgphgipfjlbfaaDoor

/-- The error of Certain. -/
def certE (B : List Nat) : Nat := if (lay B).2.2 = 3 then 0 else (lay B).2.2
end Go.Proofs.YtlgphgipfjlbfaaDoor

end

section
/- Layer 16: what the walks ask of the program's Assemble, Parse, Offsets and Certain, whatever they look like inside. -/
set_option linter.unusedVariables false
set_option linter.unusedSimpArgs false
namespace Go.Proofs.YtlgphgipfjlbfaaDoor
open Go Go.RowKit

theorem arrS : Arr Tryd.prog 27 22 4 (.slice none 0 0) := Arr.mk' Tryd.underlying27 (by kernel_rfl) (by kernel_rfl) Tryd.underlying22 rfl

/-- T w: what the program's own memory, in the blocks below G, must hold. -/
structure LyIf (G : Nat) (T : World → Prop) : Prop where
  keeps : ∀ {S : Nat → Prop} {w w' : World}, T w → Mods S w w' → (∀ k, k < G → ¬ S k) → T w'
  low : ∀ {w : World}, T w → G ≤ w.heap.size
  assemble : ∀ (vs : List Value) (S : List (List Nat)) (w : World), T w → RdS w vs S → S.length = 4 → okS4 S → (asmL S).length ≤ 140737488352000 →
    Calls Tryd.prog 11 #[.agg vs.toArray] w fun e w' => ∃ r, e = .returned r ∧ Rd w' 1 r (asmL S).length (u8s (asmL S)) ∧ (∀ k, r.ownBlock = some k → w.heap.size ≤ k) ∧ Below w.heap.size w w'
  parse : ∀ (bv : Value) (B : List Nat) (w : World), T w → Rd w 1 bv B.length (u8s B) → (∀ c ∈ B, c < 256) → B.length ≤ 140737488352000 →
    Calls Tryd.prog 16 #[bv] w fun e w' => ∃ vs, e = .returned (.tuple #[.agg vs.toArray, .int .i64 ((lay B).2.2 : Int)]) ∧ RdS w' vs (lay B).1 ∧ Below w.heap.size w w'
  offsets : ∀ (bv : Value) (B : List Nat) (w : World), T w → Rd w 1 bv B.length (u8s B) → (∀ c ∈ B, c < 256) → B.length ≤ 140737488352000 →
    Calls Tryd.prog 14 #[bv] w fun e w' => e = .returned (.tuple #[.agg (natI (lay B).2.1).toArray, .int .i64 ((lay B).2.2 : Int)]) ∧ Below w.heap.size w w'
  certain : ∀ (bv : Value) (B : List Nat) (w : World), T w → Rd w 1 bv B.length (u8s B) → (∀ c ∈ B, c < 256) → B.length ≤ 140737488352000 →
    Calls Tryd.prog 18 #[bv] w fun e w' => e = .returned (.int .i64 (certE B : Int)) ∧ Below w.heap.size w w'
theorem LyIf.below {G : Nat} {T : World → Prop} (I : LyIf G T) {w w' : World} (h : T w) (hb : Below w.heap.size w w') : T w' := I.keeps h (Mods.of_below hb (fun _ => False)) (fun _ _ h => h)
end Go.Proofs.YtlgphgipfjlbfaaDoor

end

section
/- Arrays in a drawing region that is walked in one order: loads and stores of whole arrays; two arrays and a number as results. No program in sight. -/
set_option linter.unusedVariables false
namespace Go.Proofs.YtlgphgipfjlbfaaDoor
open Go Go.RowKit

section
variable {P : Program} {t e : TypeId} {n : Nat} {z : Value}
theorem exec_loadA (hA : Arr P t e n z) {o : Oper} {a : Act} {w : World} (x : Operand) (ho : o.op = .load t x) {g : Nat} (hx : a.eval x = .pointer (some ⟨g, 0, none⟩)) {cs : List Value} (hb : Blk w g cs) (hl : cs.length = n) : (execOp a.eval o).run P w = .ok (.value (.agg cs.toArray)) w := by
  obtain ⟨u, hg⟩ := hb
  obtain ⟨i, hi, _, hs⟩ := hA.hi
  unfold execOp
  simp only [ho, hx, Instr.loadAt, Instr.sureAddr, Sem.run_bind, Sem.run_pure, Result.andThen_ok, run_loadVar_row w g u t cs.toArray (0, 0) _ hg hA.ht rfl (by rw [hi]; simp [hs, hl])]
theorem takeH_storeA (hA : Arr P t e n z) {ops : Array Oper} {Q : Exit → Act → World → Prop} {calls : List Nat} {S : World → Prop} {i : Nat} {o : Oper} {rest : List (Nat × Oper)} {a : Act} {w : World} (hc : calls.contains i = true) (hw : Region.wanted o (yielded ops a.tmps) = true)
    (x y : Operand) (ho : o.op = .store t x y) (g : Nat) (hx : a.eval x = .pointer (some ⟨g, 0, none⟩)) (cs old : List Value) (hy : a.eval y = .agg cs.toArray) (hb : Blk w g old) (hold : old.length = n) (hl : cs.length = n) (h1 : ∀ u ∈ cs, u.oneCell' = true)
    (h : ∀ w', Blk w' g cs → Mods (fun k => k = g) w w' → S w' ∧ wpTakeH P ops Q calls S rest (a.put o.dst undef) w') : wpTakeH P ops Q calls S ((i, o) :: rest) a w := by
  obtain ⟨u, hg⟩ := hb
  obtain ⟨j, hi, _, hs⟩ := hA.hi
  refine takeH_call hc hw fun K hK => ?_
  refine wp_store_row t x y ho g cs.toArray hx hy u old.toArray hg (by rw [hi]; simp [hs, hl]) (by simp [hold, hl]) (by simpa using h1) ?_
  obtain ⟨k1, k2⟩ := h _ ⟨u, setRow_heap w g _ _ u _ hg⟩ (mods_setRow w g _)
  exact hK _ _ k1 k2
/-- Two arrays in variables and a number, as results. -/
theorem resultsA2 {t2 e2 : TypeId} {n2 : Nat} {z2 : Value} (hA : Arr P t e n z) (hB : Arr P t2 e2 n2 z2) {w : World} {fn : Func} {p q u : Tmp} (h : fn.results = #[.cell p t, .cell q t2, .tmp u]) (tmps : Array Value) (g g2 : Nat) (hp : tmps.getD p undef = .pointer (some ⟨g, 0, none⟩)) (hq : tmps.getD q undef = .pointer (some ⟨g2, 0, none⟩))
    (cs ds : List Value) (hb : Blk w g cs) (hb2 : Blk w g2 ds) (hl : cs.length = n) (hl2 : ds.length = n2) :
    (results fn tmps).run P w = .ok (.tuple #[.agg cs.toArray, .agg ds.toArray, tmps.getD u undef]) w := by
  obtain ⟨v, hg⟩ := hb
  obtain ⟨i, hi, _, hs⟩ := hA.hi
  obtain ⟨v2, hg2⟩ := hb2
  obtain ⟨i2, hi2, _, hs2⟩ := hB.hi
  have hp' : tmps[p]?.getD undef = .pointer (some ⟨g, 0, none⟩) := by simpa using hp
  have hq' : tmps[q]?.getD undef = .pointer (some ⟨g2, 0, none⟩) := by simpa using hq
  have l1 := run_loadVar_row (P := P) w g v t cs.toArray (0, 0) _ hg hA.ht rfl (by rw [hi]; simp [hs, hl])
  have l2 := run_loadVar_row (P := P) w g2 v2 t2 ds.toArray (0, 0) _ hg2 hB.ht rfl (by rw [hi2]; simp [hs2, hl2])
  simp [results, h, hp', hq', asAddr, l1, l2]
end
end Go.Proofs.YtlgphgipfjlbfaaDoor

end
