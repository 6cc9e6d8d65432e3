/- Layer 2: the reference's functions. -/
import Derived.Test.YtkgghlhmgolfbaaDoorBytes
import Derived.Test.YtkgghlhmgolfbaaDoorGroups
set_option linter.unusedVariables false
namespace Go.Proofs.YtkgghlhmgolfbaaDoor
open Go Go.RowKit

set_option maxHeartbeats 400000 in
theorem ref_encode (x : Nat) (hx : x < 18446744073709551616) (w : World) :
    Calls Tryd.prog 32 #[.int .u64 (x : Int)] w fun e w' => ∃ r, e = .returned r ∧ Made w w' 5 1 r (groups x).length (u8s (groups x)) := by
  induction x using Nat.strongRecOn generalizing w with
  | _ x ih =>
    by_cases h : x < 128
    · have hlt : (x : Int) < 128 := by omega
      rw [groups_small h]
      clear ih
      go_enter Tryd.func32, Tryd.ntmps32
      go_wp2
      go_ret
      exact ⟨_, rfl, World.ownsRow_lit (base := w.heap.size) w #[.int .u8 (x : Int)] 1 (Nat.le_refl _) (by simp [maxLen]) (by simp), (Below.refl _ _).alloc (Nat.le_refl _) _⟩
    · have hlt : ¬ (x : Int) < 128 := by omega
      have HI := Lib.hid (ih (x / 128) (by omega) (by omega))
      have hlen := groups_len 8 (x / 128) (by omega)
      have hd : ((x / 128 : Nat) : Int) = (x : Int) / 128 := by omega
      have HD := Lib.hid hd
      clear ih hd
      go_enter Tryd.func32, Tryd.ntmps32
      go_wp2_with fail
      rw [← HD.out]
      refine (HI.out _).mono ?_
      rintro e w' ⟨r, rfl, hM⟩
      obtain ⟨rp, rc, hr⟩ := (Rd.of_owns hM.1).shape
      subst hr
      have HR := Lib.hid (Rd.of_owns hM.1)
      have hB : Below w.heap.size w w' := ((Below.refl _ w).alloc (Nat.le_refl _) _).trans (hM.2.mono (by simp))
      have HB := Lib.hid hB
      have HO : Hid (w'.ownsRow 0 5 1 (.slice (some ⟨w.heap.size, 0, none⟩) 1 1) 1 [.int .u8 ((x : Int) % 128 + 128)]) :=
        (Mods.of_below hM.2 (fun _ => False)).owns (World.ownsRow_lit (base := 0) w #[.int .u8 ((x : Int) % 128 + 128)] 1 (Nat.zero_le _) (by simp [maxLen]) (by simp)) (fun _ _ e => e)
      have HL : Hid ((1 + (groups (x / 128)).length) * 1 ≤ 140737488355328 ∧ 1 + (groups (x / 128)).length ≤ maxLen) := by show _ ∧ _; unfold maxLen; omega
      clear hM hB
      go_wp2_with (at_builtin; refine wpList_extend Tryd.elemU8 _ _ _ _ _ _ _ HO.out HR.out (u8s_oneCell _) HL.out rfl _ _ rfl rfl rfl ?_)
      intro v' w2 hown hmods hfr
      have HM : Hid (Made w w2 5 1 v' (groups x).length (u8s (groups x))) := by
        refine ⟨?_, HB.out.trans (hmods.below HB.out.size (fun k hk e => by simp [Value.ownBlock] at e; omega))⟩
        have h2 := owns_rebase hown (base' := w.heap.size) (fun k hk => by
          rcases hfr k hk with e | e
          · simp [Value.ownBlock] at e; omega
          · have := HB.out.size; omega)
        rw [groups_big h, List.length_cons, Nat.add_comm]
        simpa [u8s] using h2
      clear hown hmods hfr
      go_wp2
      go_ret
      exact ⟨_, rfl, HM.out⟩

set_option maxHeartbeats 400000 in
theorem ref_get_arg (v : Value) (l : List Nat) (o : Int) (w : World) (h : Rd w 1 v l.length (u8s l)) (ho : o < 0 ∨ (l.length : Int) < o) :
    Calls Tryd.prog 56 #[v, .int .i64 o] w fun e w' => e = .returned (.tuple #[.int .u64 0, .int .i64 0, .int .i64 2]) ∧ w = w' := by
  obtain ⟨p, c, hv⟩ := h.shape
  subst hv
  clear h
  by_cases hneg : o < 0
  · clear ho
    go_enter Tryd.func56, Tryd.ntmps56
    go_wp2_with fail
    go_ret3
    exact ⟨rfl, rfl⟩
  · have ho' : (l.length : Int) < o := by omega
    clear ho
    go_enter Tryd.func56, Tryd.ntmps56
    go_wp2_with fail
    go_ret3
    exact ⟨rfl, rfl⟩

set_option maxHeartbeats 400000 in
theorem ref_get_in (v : Value) (l : List Nat) (o : Nat) (w : World) (h : Rd w 1 v l.length (u8s l)) (ho : o ≤ l.length) (hl : ∀ c ∈ l, c < 256) :
    Calls Tryd.prog 56 #[v, .int .i64 (o : Int)] w fun e w' => e = .returned (.tuple #[.int .u64 ((readAt l o).1 : Int), .int .i64 (readAt l o).2.1, .int .i64 ((readAt l o).2.2 : Int)]) ∧ w = w' := by
  have hmax : (l.length : Int) ≤ 9223372036854775807 := by have := h.le; unfold maxLen at this; omega
  obtain ⟨p, c, hv⟩ := h.shape
  subst hv
  have hle : ¬ (l.length : Int) < (o : Int) := by omega
  have H2 := Lib.hid h; clear h
  have HM := Lib.hid hl; clear hl
  have HR : Hid (∀ a n e, readFrom (l.drop o) 0 0 = (a, n, e) → readAt l o = (a, (if e = 0 then (o : Int) + n else 0), e)) := fun a n e h => readAt_in ho h
  go_enter Tryd.func56, Tryd.ntmps56
  go_wp2_with fail
  go_loop [7, 8, 9] (fun x n i => ∃ (k y U : Nat), i = .int .i64 (k : Int) ∧ x = .int .u64 (y : Int) ∧ n = .int .u64 (U : Int) ∧ o + k ≤ l.length ∧ k ≤ 9 ∧ y < U ∧ Hid (U = 2 ^ (7 * k)) ∧ U ≤ 9223372036854775808 ∧ Hid (readFrom (l.drop o) 0 0 = readFrom (l.drop (o + k)) k y)) (fun _ _ i => l.length - o - (intOf i).toNat)
  case atStart => exact ⟨0, 0, 1, rfl, rfl, rfl, by omega, by omega, by omega, rfl, by omega, rfl⟩
  case round =>
    obtain ⟨k, y, U, rfl, rfl, rfl, hk, hk9, hy, hU, hU2, hrf⟩ := hrel
    have hok : (o : Int) + (k : Int) ≤ (l.length : Int) := by omega
    by_cases hlt : o + k < l.length
    · have hlt' : ¬ (l.length : Int) ≤ (o : Int) + (k : Int) := by omega
      obtain ⟨b, off, c', e, _, _, hc⟩ := H2.out.at (fun e => by have := congrArg List.length e; rw [u8s_length] at this; simp at this; subst this; simp at hlt)
      simp only [Value.slice.injEq] at e
      obtain ⟨rfl, _, rfl⟩ := e
      obtain ⟨u, hu⟩ : ∃ u, l[o + k] = u := ⟨_, rfl⟩
      have hcell : w.cell? ⟨b, off + (o + k), none⟩ = some (.int .u8 (u : Int)) := by rw [← hu]; exact hc (o + k) _ (u8s_get _ _ hlt)
      have hu256 : u < 256 := hu ▸ HM.out _ (List.getElem_mem hlt)
      have hdrop : l.drop (o + k) = u :: l.drop (o + (k + 1)) := by rw [← hu]; exact List.drop_eq_getElem_cons hlt
      have HF : Hid (readFrom (l.drop o) 0 0 = readFrom (u :: l.drop (o + (k + 1))) k y) := by show _ = _; rw [← hdrop]; exact hrf.out
      clear hc hdrop hrf hu
      by_cases h9 : k = 9 ∧ 1 < u
      · obtain ⟨rfl, h1⟩ := h9
        have h1' : (1 : Int) < (u : Int) := by omega
        have HA := Lib.hid (HR.out 0 0 6 (by rw [HF.out, readFrom, if_pos ⟨rfl, h1⟩]))
        go_wp2
        go_ret3
        exact ⟨by rw [HA.out]; rfl, rfl⟩
      · by_cases hk9' : k = 9
        · subst hk9'
          have h1 : ¬ (1 : Int) < (u : Int) := by omega
          have hUe : U = 9223372036854775808 := hU.out
          subst hUe
          by_cases hu0 : u = 0
          · subst hu0
            have HA := Lib.hid (HR.out 0 0 5 (by rw [HF.out, readFrom, if_neg (by omega), if_neg (by omega), if_pos (by omega)]))
            go_wp2
            go_ret3
            exact ⟨by rw [HA.out]; rfl, rfl⟩
          · obtain rfl : u = 1 := by omega
            have HA := Lib.hid (HR.out (y + 9223372036854775808) 10 0 (by rw [HF.out, readFrom, if_neg (by omega), if_neg (by omega), if_neg (by omega), Nat.one_mul]))
            clear HF HR
            go_wp2
            go_ret3
            exact ⟨by rw [HA.out, if_pos trivial]; rfl, rfl⟩
        · have hk9i : ¬ (k : Int) = 9 := by omega
          have hU3 : U ≤ 72057594037927936 := by rw [hU.out]; exact pow_seven (by omega)
          obtain ⟨hp, hp2⟩ := add_group y u U hy hU3
          have HP := Lib.hid hp; have HP2 := Lib.hid hp2
          have HE : Hid (∀ c : Nat, y + c * U = y + c * 2 ^ (7 * k)) := fun c => by rw [← hU.out]
          have HU1 : Hid (U * 128 = 2 ^ (7 * (k + 1))) := by show _ = _; rw [hU.out, show 7 * (k + 1) = 7 * k + 7 from by omega, Nat.pow_add]
          clear h9 hp hp2
          by_cases hbig : 128 ≤ u
          · have hbig' : ¬ (u : Int) < 128 := by omega
            have HD : Hid (readFrom (l.drop o) 0 0 = readFrom (l.drop (o + (k + 1))) (k + 1) (y + u % 128 * U)) := by show _ = _; rw [HF.out, readFrom, if_neg (by omega), if_pos hbig, HE.out]
            go_wp2
            go_round
            case rel => exact ⟨k + 1, _, U * 128, by go_num, by rw [HP.out], by go_num, by omega, by omega, HP2.out, HU1.out, by omega, HD.out⟩
            case measure => simp [intOf]; omega
          · have hbig' : (u : Int) < 128 := by omega
            clear hU2
            by_cases h0 : u = 0 ∧ 0 < k
            · obtain ⟨rfl, hk0⟩ := h0
              have hk0' : (0 : Int) < (k : Int) := by omega
              have HA := Lib.hid (HR.out 0 0 5 (by rw [HF.out, readFrom, if_neg (by omega), if_neg (by omega), if_pos ⟨rfl, hk0⟩]))
              go_wp2
              go_ret3
              exact ⟨by rw [HA.out]; rfl, rfl⟩
            · have HA := Lib.hid (HR.out (y + u * U) (k + 1) 0 (by rw [HF.out, readFrom, if_neg (by omega), if_neg hbig, if_neg h0, HE.out]))
              have HU : Hid (u % 128 = u) := by show _ = _; omega
              by_cases hu0 : u = 0
              · subst hu0
                obtain rfl : k = 0 := by omega
                obtain rfl : U = 1 := by simpa using hU.out
                obtain rfl : y = 0 := by omega
                rw [Nat.add_zero] at hcell
                clear HP HP2 HE HU1
                go_wp2
                go_ret3
                exact ⟨by rw [HA.out]; simp, rfl⟩
              · have hu0' : ¬ (u : Int) = 0 := by omega
                go_wp2
                go_ret3
                exact ⟨by rw [HA.out, HP.out, HU.out]; simp; omega, rfl⟩
    · have hlt' : (l.length : Int) ≤ (o : Int) + (k : Int) := by omega
      have HA := Lib.hid (HR.out 0 0 3 (by rw [hrf.out, List.drop_eq_nil_of_le (by omega), readFrom]))
      go_wp2
      go_ret3
      exact ⟨by rw [HA.out]; rfl, rfl⟩

theorem ref_get (v : Value) (l : List Nat) (o : Int) (w : World) (h : Rd w 1 v l.length (u8s l)) (hl : ∀ c ∈ l, c < 256) :
    Calls Tryd.prog 56 #[v, .int .i64 o] w fun e w' => e = .returned (.tuple #[.int .u64 ((readAt l o).1 : Int), .int .i64 (readAt l o).2.1, .int .i64 ((readAt l o).2.2 : Int)]) ∧ w = w' := by
  by_cases ho : o < 0 ∨ (l.length : Int) < o
  · rw [show readAt l o = (0, 0, 2) by rw [readAt, if_pos ho]]
    exact ref_get_arg v l o w h ho
  · obtain ⟨k, rfl⟩ : ∃ k : Nat, o = k := ⟨o.toNat, by omega⟩
    exact ref_get_in v l k w h (by omega) hl
end Go.Proofs.YtkgghlhmgolfbaaDoor
