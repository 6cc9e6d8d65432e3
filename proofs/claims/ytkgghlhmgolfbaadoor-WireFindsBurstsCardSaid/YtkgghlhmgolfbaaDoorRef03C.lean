/- Layer 3: the reference's Flip. -/
import Derived.Test.YtkgghlhmgolfbaaDoorRef03
set_option linter.unusedVariables false
namespace Go.Proofs.YtkgghlhmgolfbaaDoor
open Go Go.RowKit

theorem flip_step (l : List Nat) (o p k : Nat) (h : p / 2 ^ k % 2 = 1) (hin : o + k < 8 * l.length) : flipTo l o p (k + 1) = flipBit (flipTo l o p k) (o + k) := by rw [flipTo, if_pos ⟨h, hin⟩]
theorem flip_stay (l : List Nat) (o p k : Nat) (h : ¬ (p / 2 ^ k % 2 = 1 ∧ o + k < 8 * l.length)) : flipTo l o p (k + 1) = flipTo l o p k := by rw [flipTo, if_neg h]
theorem half_pow (p k : Nat) : p / 2 ^ (k + 1) = p / 2 ^ k / 2 := by rw [Nat.pow_succ, Nat.div_div_eq_div_mul]

set_option maxHeartbeats 4000000 in
theorem ref_flip (v : Value) (l : List Nat) (o p : Nat) (w : World) (h : Rd w 1 v l.length (u8s l)) (hl : ∀ c ∈ l, c < 256) (hn : l.length ≤ 140737488355000) (ho : o < 8 * l.length) (hp : p < 4294967296) :
    Calls Tryd.prog 24 #[v, .int .i64 (o : Int), .int .u32 (p : Int)] w fun e w' => ∃ r, e = .returned r ∧ Made w w' 5 1 r l.length (u8s (flipTo l o p 32)) := by
  have H2 := Lib.hid h
  have HM := Lib.hid hl
  obtain ⟨q, c, hv⟩ := h.shape
  subst hv
  clear h hl
  have HB : Hid (Below w.heap.size w (w.alloc (.cells #[] 5))) := (Below.refl _ _).alloc (Nat.le_refl _) _
  have HR := Lib.hid (H2.out.below HB.out)
  have HO : Hid ((w.alloc (.cells #[] 5)).ownsRow 0 5 1 (.slice (some ⟨w.heap.size, 0, none⟩) 0 0) 0 []) := World.ownsRow_lit (base := 0) w #[] 0 (Nat.zero_le _) (by simp [maxLen]) (by simp)
  have HL : Hid ((0 + l.length) * 1 ≤ 140737488355328 ∧ 0 + l.length ≤ maxLen) := by show _ ∧ _; unfold maxLen; omega
  go_enter Tryd.func24, Tryd.ntmps24
  go_wp2_with (at_builtin; refine wpList_extend Tryd.elemU8 _ _ _ _ _ _ _ HO.out HR.out (u8s_oneCell _) HL.out rfl _ _ rfl rfl rfl ?_)
  intro v' w1 hown hmods hfr
  have HO1 : Hid (w1.ownsRow w.heap.size 5 1 v' l.length (u8s (flipTo l o p 0))) := by
    have h2 := owns_rebase hown (base' := w.heap.size) (fun k hk => by
      rcases hfr k hk with e | e
      · simp [Value.ownBlock] at e; omega
      · have := HB.out.size; omega)
    show World.ownsRow _ _ _ _ _ _ _
    simpa [flipTo] using h2
  have HB1 := Lib.hid (HB.out.trans (hmods.below HB.out.size (fun k hk e => by simp [Value.ownBlock] at e; omega)))
  clear hown hmods hfr HR HO HB
  obtain ⟨g, cap, hv1⟩ : ∃ g cap, v' = .slice (some ⟨g, 0, none⟩) l.length cap := by
    rcases owns_cases HO1.out with ⟨_, h0, _⟩ | ⟨g, cap, hv, _⟩
    · omega
    · exact ⟨g, cap, hv⟩
  subst hv1
  go_wp2_with fail
  go_loopw [2, 8] (fun pat i wr => ∃ k : Nat, k ≤ 32 ∧ i = .int .i64 (k : Int) ∧ pat = .int .u32 ((p / 2 ^ k : Nat) : Int) ∧ Hid (wr.ownsRow w.heap.size 5 1 (.slice (some ⟨g, 0, none⟩) l.length cap) l.length (u8s (flipTo l o p k))) ∧ Hid (Below w.heap.size w wr)) (fun _ i _ => 32 - (intOf i).toNat)
  case atStart => exact ⟨0, by decide, rfl, by simp, HO1, HB1⟩
  case round =>
    obtain ⟨k, hk, rfl, rfl, HOk, HBk⟩ := hrel
    by_cases hlt : k < 32
    · have hlt' : (k : Int) < 32 := by omega
      have HP := Lib.hid (half_pow p k)
      have HP32 : p / 2 ^ k < 4294967296 := Nat.lt_of_le_of_lt (Nat.div_le_self _ _) hp
      have HS := Lib.hid (flip_step l o p k)
      have HT := Lib.hid (flip_stay l o p k)
      have HF := Lib.hid (flipTo_lt HM.out o p k)
      have HFl := Lib.hid (flipTo_length l o p k)
      generalize p / 2 ^ k = X at *
      by_cases hin : o + k < 8 * l.length
      · by_cases hodd : X % 2 = 1
        · have hodd' : (X : Int) % 2 = 1 := by omega
          have hin' : (o : Int) + (k : Int) < 8 * (l.length : Int) := by omega
          obtain ⟨K, hK⟩ : ∃ K, o + k = K := ⟨_, rfl⟩
          have hKi : (o : Int) + (k : Int) = (K : Int) := by omega
          go_wp2_with fail
          clear hKi
          go_loop [10, 11] (fun x j => ∃ i : Nat, i ≤ K % 8 ∧ j = .int .i64 (i : Int) ∧ x = .int .i64 ((2 ^ i : Nat) : Int)) (fun _ j => K % 8 - (intOf j).toNat)
          case atStart => exact ⟨0, by omega, rfl, rfl⟩
          case round =>
            obtain ⟨i, hi, rfl, rfl⟩ := hrel
            have hW : 2 ^ i ≤ 128 := Nat.pow_le_pow_right (n := 2) (j := 7) (by decide) (by omega)
            by_cases hir : i < K % 8
            · have hir' : (i : Int) < (K : Int) % 8 := by omega
              have HW := Lib.hid (show 2 ^ (i + 1) = 2 ^ i * 2 from Nat.pow_succ 2 i)
              generalize 2 ^ i = W at *
              go_wp2_with fail
              go_round
              case rel => exact ⟨i + 1, by omega, by go_num, by rw [HW.out]; go_num⟩
              case measure => simp [intOf]; omega
            · have hir' : ¬ (i : Int) < (K : Int) % 8 := by omega
              have hKl : K / 8 < (flipTo l o p k).length := by rw [HFl.out]; omega
              have hKl' : (K : Int) / 8 < (l.length : Int) := by omega
              obtain ⟨x, hx⟩ : ∃ x, (flipTo l o p k)[K / 8] = x := ⟨_, rfl⟩
              have hcell : wr.cell? ⟨g, K / 8, none⟩ = some (.int .u8 (x : Int)) := by
                rw [HOk.out.cellAt (K / 8) (by omega), u8s_get _ _ hKl, hx]
              have hfro : wr.frozen? ⟨g, K / 8, none⟩ = false := HOk.out.frozenAt _
              have hx8 : x < 256 := hx ▸ HF.out _ (List.getElem_mem hKl)
              have HWX := Lib.hid (u8_xor_nat x (2 ^ i) hx8 (by omega))
              have hg : w.heap.size ≤ g := (HOk.out.lt g rfl).1
              have HON : Hid ((wr.setCell ⟨g, K / 8, none⟩ (.int .u8 (bits .xor .u8 (x : Int) ((2 ^ i : Nat) : Int)))).ownsRow w.heap.size 5 1 (.slice (some ⟨g, 0, none⟩) l.length cap) l.length (u8s (flipTo l o p (k + 1)))) := by
                show World.ownsRow _ _ _ _ _ _ _
                have e : flipTo l o p (k + 1) = (flipTo l o p k).set (K / 8) (x ^^^ 2 ^ i) := by
                  rw [HS.out hodd (by omega), hK, flipBit, List.getD_eq_getElem?_getD, List.getElem?_eq_getElem hKl, Option.getD_some, hx, show i = K % 8 by omega]
                rw [e, HWX.out, ← u8s_set]
                exact (HOk.out.stored (K / 8) _).1
              have HBN : Hid (Below w.heap.size w (wr.setCell ⟨g, K / 8, none⟩ (.int .u8 (bits .xor .u8 (x : Int) ((2 ^ i : Nat) : Int))))) := HBk.out.trans (Mods.below (Mods.set (fun j => j = g) _ _ _ (fun _ => rfl)) HBk.out.size (fun j hj e => by omega))
              clear hg HWX
              generalize 2 ^ i = W at *
              go_wp2_with fail
              go_roundw
              case rel => exact ⟨k + 1, by omega, by go_num, by rw [HP.out]; rfl, HON, HBN⟩
              case measure => simp [intOf]; omega
        · have hodd' : ¬ (X : Int) % 2 = 1 := by omega
          have hin' : (o : Int) + (k : Int) < 8 * (l.length : Int) := by omega
          have HOn : Hid (wr.ownsRow w.heap.size 5 1 (.slice (some ⟨g, 0, none⟩) l.length cap) l.length (u8s (flipTo l o p (k + 1)))) := by show World.ownsRow _ _ _ _ _ _ _; rw [HT.out (fun h => hodd h.1)]; exact HOk.out
          go_wp2_with fail
          go_roundw
          case rel => exact ⟨k + 1, by omega, by go_num, by rw [HP.out]; rfl, HOn, HBk⟩
          case measure => simp [intOf]; omega
      · have hin' : ¬ (o : Int) + (k : Int) < 8 * (l.length : Int) := by omega
        have HOn : Hid (wr.ownsRow w.heap.size 5 1 (.slice (some ⟨g, 0, none⟩) l.length cap) l.length (u8s (flipTo l o p (k + 1)))) := by show World.ownsRow _ _ _ _ _ _ _; rw [HT.out (fun h => hin h.2)]; exact HOk.out
        go_wp2_with fail
        go_roundw
        case rel => exact ⟨k + 1, by omega, by go_num, by rw [HP.out]; rfl, HOn, HBk⟩
        case measure => simp [intOf]; omega
    · have hlt' : ¬ (k : Int) < 32 := by omega
      have HK : Hid (k = 32) := by show _ = _; omega
      clear hk hlt
      go_wp2_with fail
      go_ret
      exact ⟨_, rfl, by have := HOk.out; rw [HK.out] at this; exact this, HBk.out⟩
end Go.Proofs.YtkgghlhmgolfbaaDoor
