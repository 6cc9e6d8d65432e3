/- Layer 3: the reference's states and checksums. -/
import Derived.Test.YtkgghlhmgolfbaaDoorBytes
import Derived.Test.YtkgghlhmgolfbaaDoorCrcC
import Derived.Laws.BitsAllLaws
set_option linter.unusedVariables false
namespace Go.Proofs.YtkgghlhmgolfbaaDoor
open Go Go.RowKit

theorem u8s_le4 (S : Nat) (h : S < 4294967296) : u8s (le4 S) = [.int .u8 ((S : Int) % 256), .int .u8 ((S : Int) / 256 % 256), .int .u8 ((S : Int) / 65536 % 256), .int .u8 ((S : Int) / 16777216)] := by
  have e : S / 16777216 % 256 = S / 16777216 := by omega
  simp [u8s, le4, e]
theorem le4_length (S : Nat) : (le4 S).length = 4 := rfl
theorem shrN_succ (n s : Nat) : shrN (n + 1) s = shr1 (shrN n s) := by rw [shrN_add]; rfl

set_option maxHeartbeats 400000 in
theorem ref_step (s c : Nat) (hs : s < 4294967296) (hc : c < 256) (w : World) :
    Calls Tryd.prog 64 #[.int .u32 (s : Int), .int .u8 (c : Int)] w fun e w' => e = .returned (.int .u32 (step8 s c : Int)) ∧ w = w' := by
  have H0 := Lib.hid (u32_xor_nat s c hs (by omega))
  have HX : Hid (∀ k, shrN k (s ^^^ c) < 4294967296) := fun k => shrN_lt (xor_lt32 hs (by omega))
  have HE : Hid (step8 s c = shrN 8 (s ^^^ c)) := rfl
  go_enter Tryd.func64, Tryd.ntmps64
  go_wp2_with fail
  go_loop [5, 6] (fun x i => ∃ k : Nat, k ≤ 8 ∧ i = .int .i64 (k : Int) ∧ x = .int .u32 (shrN k (s ^^^ c) : Int)) (fun _ i => 8 - (intOf i).toNat)
  case atStart => exact ⟨0, by decide, rfl, by rw [H0.out]; rfl⟩
  case round =>
    obtain ⟨k, hk, rfl, rfl⟩ := hrel
    by_cases hlt : k < 8
    · have hX := HX.out k
      have HS := Lib.hid (shrN_succ k (s ^^^ c))
      generalize shrN k (s ^^^ c) = X at *
      have HB := Lib.hid (u32_xor_nat (X / 2) 3988292384 (by omega) (by decide))
      by_cases hodd : X % 2 = 1
      · have hodd' : (X : Int) % 2 = 1 := by omega
        have HF : Hid (shr1 X = X / 2 ^^^ 3988292384) := by show _ = _; rw [shr1, if_pos hodd]
        go_wp2_with fail
        go_round
        case rel => exact ⟨k + 1, by omega, by go_num, by rw [HS.out, HF.out, ← HB.out]; rfl⟩
        case measure => simp [intOf]; omega
      · have hodd' : ¬ (X : Int) % 2 = 1 := by omega
        have HF : Hid (shr1 X = X / 2) := by show _ = _; rw [shr1, if_neg hodd]
        go_wp2_with fail
        go_round
        case rel => exact ⟨k + 1, by omega, by go_num, by rw [HS.out, HF.out]; rfl⟩
        case measure => simp [intOf]; omega
    · have hlt' : ¬ (k : Int) < 8 := by omega
      have HK : Hid (k = 8) := by show _ = _; omega
      clear hk hlt
      go_wp2_with fail
      go_ret
      exact ⟨by rw [HE.out, HK.out]; rfl, rfl⟩

theorem upd_take_succ (s : Nat) (l : List Nat) (k : Nat) (h : k < l.length) : upd s (l.take (k + 1)) = step8 (upd s (l.take k)) l[k] := by
  rw [List.take_add_one, List.getElem?_eq_getElem h, Option.toList_some, upd_append]; rfl
theorem upd_take_all (s : Nat) (l : List Nat) : upd s (l.take l.length) = upd s l := by rw [List.take_length]

set_option maxHeartbeats 400000 in
theorem ref_update (s : Nat) (v : Value) (l : List Nat) (w : World) (hs : s < 4294967296) (h : Rd w 1 v l.length (u8s l)) (hl : ∀ c ∈ l, c < 256) :
    Calls Tryd.prog 62 #[.int .u32 (s : Int), v] w fun e w' => e = .returned (.int .u32 (upd s l : Int)) ∧ w = w' := by
  have hmax : (l.length : Int) ≤ 9223372036854775807 := by have := h.le; unfold maxLen at this; omega
  obtain ⟨p, c, hv⟩ := h.shape
  subst hv
  have H2 := Lib.hid h; clear h
  have HM := Lib.hid hl; clear hl
  have HX : Hid (∀ k, upd s (l.take k) < 4294967296) := fun k => upd_lt hs _ (fun c hc => HM.out c (List.mem_of_mem_take hc))
  go_enter Tryd.func62, Tryd.ntmps62
  go_wp2_with fail
  go_loop [0, 5] (fun x i => ∃ k : Nat, k ≤ l.length ∧ i = .int .i64 (k : Int) ∧ x = .int .u32 (upd s (l.take k) : Int)) (fun _ i => l.length - (intOf i).toNat)
  case atStart => exact ⟨0, by omega, rfl, rfl⟩
  case round =>
    obtain ⟨k, hk, rfl, rfl⟩ := hrel
    by_cases hlt : k < l.length
    · have hlt' : (k : Int) < (l.length : Int) := by omega
      obtain ⟨b, off, c', e, _, _, hc⟩ := H2.out.at (fun e => by have := congrArg List.length e; rw [u8s_length] at this; simp at this; subst this; simp at hlt)
      simp only [Value.slice.injEq] at e
      obtain ⟨rfl, _, rfl⟩ := e
      have hcell := hc k _ (u8s_get _ _ hlt)
      have hu := HM.out _ (List.getElem_mem hlt)
      have HS := Lib.hid (upd_take_succ s l k hlt)
      have hX := HX.out k
      clear hc
      generalize upd s (l.take k) = X at *
      generalize l[k] = u at *
      go_wp2_with fail
      refine (ref_step X u hX hu _).mono ?_
      rintro e w2 ⟨rfl, rfl⟩
      rw [← HS.out]
      go_wp2_with fail
      go_round
      case rel => exact ⟨k + 1, by omega, by go_num, rfl⟩
      case measure => simp [intOf]; omega
    · obtain rfl : k = l.length := by omega
      have HE := Lib.hid (upd_take_all s l)
      rw [HE.out]
      go_wp2_with fail
      go_ret
      exact ⟨rfl, rfl⟩

theorem ref_sum (v : Value) (l : List Nat) (w : World) (h : Rd w 1 v l.length (u8s l)) (hl : ∀ c ∈ l, c < 256) :
    Calls Tryd.prog 55 #[v] w fun e w' => e = .returned (.int .u32 (crcOf l : Int)) ∧ w = w' := by
  have HU := Lib.hid (upd_lt (show 4294967295 < 4294967296 by decide) l hl)
  have H2 := Lib.hid h; clear h
  have HM := Lib.hid hl; clear hl
  have HE : Hid (crcOf l = 4294967295 - upd 4294967295 l) := rfl
  go_enter Tryd.func55, Tryd.ntmps55
  go_wp2_with fail
  refine (ref_update 4294967295 v l _ (by decide) H2.out HM.out).mono ?_
  rintro e w2 ⟨rfl, rfl⟩
  have hU := HU.out
  clear HU
  generalize upd 4294967295 l = X at *
  go_wp2_with fail
  go_ret
  exact ⟨ret_int (by have := HE.out; omega), rfl⟩
end Go.Proofs.YtkgghlhmgolfbaaDoor
