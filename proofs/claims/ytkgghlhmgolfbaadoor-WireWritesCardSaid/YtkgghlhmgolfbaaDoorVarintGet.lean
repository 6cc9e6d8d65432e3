/- Layer 2: Get. -/
import Derived.Test.YtkgghlhmgolfbaaDoorBytes
import Derived.Test.YtkgghlhmgolfbaaDoorGroups
import Derived.Test.YtkgghlhmgolfbaaDoorFrom
set_option linter.unusedVariables false
namespace Go.Proofs.YtkgghlhmgolfbaaDoor
open Go Go.RowKit

set_option maxHeartbeats 400000 in
theorem get_arg (v : Value) (l : List Nat) (o : Int) (w : World) (h : Rd w 1 v l.length (u8s l)) (ho : o < 0 ∨ (l.length : Int) < o) :
    Calls Tryd.prog 58 #[v, .int .i64 o] w fun e w' => e = .returned (.tuple #[.int .u64 0, .int .i64 0, .int .i64 2]) ∧ w = w' := by
  obtain ⟨p, c, hv⟩ := h.shape
  subst hv
  clear h
  by_cases hneg : o < 0
  · clear ho
    go_enter Tryd.func58, Tryd.ntmps58
    go_wp2_with fail
    go_ret3
    exact ⟨rfl, rfl⟩
  · have ho' : (l.length : Int) < o := by omega
    clear ho
    go_enter Tryd.func58, Tryd.ntmps58
    go_wp2_with fail
    go_ret3
    exact ⟨rfl, rfl⟩

set_option maxHeartbeats 400000 in
theorem get_in (v : Value) (l : List Nat) (o : Nat) (w : World) (h : Rd w 1 v l.length (u8s l)) (ho : o ≤ l.length) (hl : ∀ c ∈ l, c < 256) :
    Calls Tryd.prog 58 #[v, .int .i64 (o : Int)] w fun e w' => e = .returned (.tuple #[.int .u64 ((readAt l o).1 : Int), .int .i64 (readAt l o).2.1, .int .i64 ((readAt l o).2.2 : Int)]) ∧ w = w' := by
  obtain ⟨p, c, hv⟩ := h.shape
  subst hv
  have hle : ¬ (l.length : Int) < (o : Int) := by omega
  have H := Lib.hid h; clear h
  go_enter Tryd.func58, Tryd.ntmps58
  go_wp2_with (refine wpList_from Tryd.elemU8 _ _ _ o _ H.out ho rfl _ _ rfl rfl rfl ?_; intro p2 c2 h2)
  have H2 : Hid (Rd w 1 (.slice p2 (l.length - o) c2) (l.drop o).length (u8s (l.drop o))) := by
    show Rd _ _ _ _ _
    rw [List.length_drop]
    simpa [u8s, List.map_drop] using h2
  have HM : Hid (∀ c ∈ l.drop o, c < 256) := fun c hc => hl c (List.mem_of_mem_drop hc)
  have HR : Hid (∀ a n e, readFrom (l.drop o) 0 0 = (a, n, e) → readAt l o = (a, (if e = 0 then (o : Int) + n else 0), e)) := fun a n e h => readAt_in ho h
  have hom : o + (l.drop o).length ≤ maxLen := by have := H.out.le; rw [List.length_drop]; omega
  have hml : l.length - o = (l.drop o).length := by simp
  rw [hml] at H2 ⊢
  clear h2 hl H hml
  generalize l.drop o = d at *
  go_loop [7, 22] (fun x i => ∃ (k y : Nat), i = .int .i64 (k : Int) ∧ x = .int .u64 (y : Int) ∧ k ≤ d.length ∧ k ≤ 9 ∧ y < 2 ^ (7 * k) ∧ Hid (readFrom d 0 0 = readFrom (d.drop k) k y)) (fun _ i => d.length - (intOf i).toNat)
  case atStart => exact ⟨0, 0, rfl, rfl, by omega, by omega, by simp, rfl⟩
  case round =>
    obtain ⟨k, y, rfl, rfl, hk, hk9, hy, hrf⟩ := hrel
    by_cases hlt : k < d.length
    · have hlt' : (k : Int) < (d.length : Int) := by omega
      obtain ⟨b, off, c', e, _, _, hc⟩ := H2.out.at (fun e => by have := congrArg List.length e; rw [u8s_length] at this; simp at this; subst this; simp at hlt)
      simp only [Value.slice.injEq] at e
      obtain ⟨rfl, _, rfl⟩ := e
      obtain ⟨u, hu⟩ : ∃ u, d[k] = u := ⟨_, rfl⟩
      have hcell : w.cell? ⟨b, off + k, none⟩ = some (.int .u8 (u : Int)) := by rw [← hu]; exact hc k _ (u8s_get _ k hlt)
      have hu256 : u < 256 := hu ▸ HM.out _ (List.getElem_mem hlt)
      have hdrop : d.drop k = u :: d.drop (k + 1) := by rw [← hu]; exact List.drop_eq_getElem_cons hlt
      have HF : Hid (readFrom d 0 0 = readFrom (u :: d.drop (k + 1)) k y) := by show _ = _; rw [← hdrop]; exact hrf.out
      clear hc hdrop hrf hu
      by_cases h9 : k = 9 ∧ 1 < u
      · obtain ⟨rfl, h1⟩ := h9
        have h1' : (1 : Int) < (u : Int) := by omega
        have HA := Lib.hid (HR.out 0 0 6 (by rw [HF.out, readFrom, if_pos ⟨rfl, h1⟩]))
        go_wp2
        go_ret3
        exact ⟨by rw [HA.out]; rfl, rfl⟩
      · have HY := Lib.hid hy
        clear hy
        by_cases hk9' : k = 9
        · subst hk9'
          have h1 : ¬ (1 : Int) < (u : Int) := by omega
          by_cases hu0 : u = 0
          · subst hu0
            have HA := Lib.hid (HR.out 0 0 5 (by rw [HF.out, readFrom, if_neg (by omega), if_neg (by omega), if_pos (by omega)]))
            go_wp2
            go_ret3
            exact ⟨by rw [HA.out]; rfl, rfl⟩
          · obtain rfl : u = 1 := by omega
            have HA := Lib.hid (HR.out (y + 2 ^ (7 * 9)) 10 0 (by rw [HF.out, readFrom, if_neg (by omega), if_neg (by omega), if_neg (by omega), Nat.one_mul]))
            have HW : Hid (wrap64 (wrap64 ((o : Int) + 9) + 1) = (o : Int) + 10) := by show _ = _; unfold maxLen at hom; simp only [wrap64]; omega
            have HV := Lib.hid (or_top y HY.out)
            clear HY HF HR
            generalize 2 ^ (7 * 9) = T at HA HV
            go_wp2
            go_ret3
            exact ⟨by rw [HA.out, HV.out, HW.out, if_pos trivial]; rfl, rfl⟩
        · have hk9i : ¬ (k : Int) = 9 := by omega
          have hkb : (0 : Int) ≤ 7 * (k : Int) ∧ 7 * (k : Int) < 64 := by omega
          have HO := Lib.hid (or_shift y u k HY.out (by omega) (shift_small (by omega)))
          have HN := Lib.hid (next_small (u := u) HY.out)
          clear h9
          by_cases hbig : 128 ≤ u
          · have hbig' : (128 : Int) ≤ (u : Int) := by omega
            have HD : Hid (readFrom d 0 0 = readFrom (d.drop (k + 1)) (k + 1) (y + u % 128 * 2 ^ (7 * k))) := by show _ = _; rw [HF.out, readFrom, if_neg (by omega), if_pos hbig]
            go_wp2
            go_round
            case rel => exact ⟨k + 1, _, by go_num, by rw [HO.out], by omega, by omega, HN.out, HD⟩
            case measure => simp [intOf]; omega
          · have hbig' : ¬ (128 : Int) ≤ (u : Int) := by omega
            by_cases h0 : u = 0 ∧ 0 < k
            · obtain ⟨rfl, hk0⟩ := h0
              have hk0' : (0 : Int) < (k : Int) := by omega
              have HA := Lib.hid (HR.out 0 0 5 (by rw [HF.out, readFrom, if_neg (by omega), if_neg (by omega), if_pos ⟨rfl, hk0⟩]))
              go_wp2
              go_ret3
              exact ⟨by rw [HA.out]; rfl, rfl⟩
            · have HA := Lib.hid (HR.out (y + u * 2 ^ (7 * k)) (k + 1) 0 (by rw [HF.out, readFrom, if_neg (by omega), if_neg hbig, if_neg h0]))
              by_cases hu0 : u = 0
              · subst hu0
                obtain rfl : k = 0 := by omega
                obtain rfl : y = 0 := by simpa using HY.out
                rw [Nat.add_zero] at hcell
                have hs : (o : Int) + 1 ≤ 9223372036854775807 := by unfold maxLen at hom; omega
                go_wp2
                go_ret3
                exact ⟨by rw [HA.out]; simp; rfl, rfl⟩
              · have hu0' : ¬ (u : Int) = 0 := by omega
                have hs : (o : Int) + k + 1 ≤ 9223372036854775807 := by unfold maxLen at hom; omega
                have HU : Hid (u % 128 = u) := by show _ = _; omega
                go_wp2
                go_ret3
                exact ⟨by rw [HA.out, HO.out, HU.out]; simp; omega, rfl⟩
    · have hlt' : ¬ (k : Int) < (d.length : Int) := by omega
      have HA := Lib.hid (HR.out 0 0 3 (by rw [hrf.out, List.drop_eq_nil_of_le (by omega), readFrom]))
      go_wp2
      go_ret3
      exact ⟨by rw [HA.out]; rfl, rfl⟩

theorem readAt_arg {l : List Nat} {o : Int} (h : o < 0 ∨ (l.length : Int) < o) : readAt l o = (0, 0, 2) := by rw [readAt, if_pos h]
theorem get_any (v : Value) (l : List Nat) (o : Int) (w : World) (h : Rd w 1 v l.length (u8s l)) (hl : ∀ c ∈ l, c < 256) :
    Calls Tryd.prog 58 #[v, .int .i64 o] w fun e w' => e = .returned (.tuple #[.int .u64 ((readAt l o).1 : Int), .int .i64 (readAt l o).2.1, .int .i64 ((readAt l o).2.2 : Int)]) ∧ w = w' := by
  by_cases ho : o < 0 ∨ (l.length : Int) < o
  · rw [readAt_arg ho]
    exact get_arg v l o w h ho
  · obtain ⟨k, rfl⟩ : ∃ k : Nat, o = k := ⟨o.toNat, by omega⟩
    exact get_in v l k w h (by omega) hl

theorem readAt_lt {l : List Nat} (hl : ∀ c ∈ l, c < 256) (o : Int) : (readAt l o).1 < 18446744073709551616 := by
  rw [readAt]
  split
  · decide
  · exact readFrom_lt (fun c hc => hl c (List.mem_of_mem_drop hc))

end Go.Proofs.YtkgghlhmgolfbaaDoor
