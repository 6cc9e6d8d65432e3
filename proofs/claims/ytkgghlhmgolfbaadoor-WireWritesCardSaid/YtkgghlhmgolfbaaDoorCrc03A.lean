/- Layer 3: states and checksums, as the program takes them, four bits at a time. -/
import Derived.Test.YtkgghlhmgolfbaaDoorRef03
set_option linter.unusedVariables false
namespace Go.Proofs.YtkgghlhmgolfbaaDoor
open Go Go.RowKit

/-- The program's table of 16 words. -/
def Tab (w : World) : Prop := ∀ i : Nat, i < 16 → w.cell? ⟨0, i, none⟩ = some (.int .u32 ((fours.getD i 0 : Nat) : Int))
theorem Tab.below {w w' : World} {B : Nat} (h : Tab w) (hb : Below B w w') (hB : w.heap.size ≤ B) : Tab w' := fun i hi => (hb.cell (Nat.lt_of_lt_of_le (World.block_lt_of_cell? w _ (h i hi)) hB)).trans (h i hi)

theorem upd_step (s c : Nat) (hs : s < 4294967296) (hc : c < 256) : ∃ X Y : Nat, X = s ^^^ c ∧ X < 4294967296 ∧ Y = X / 16 ^^^ fours.getD (X % 16) 0 ∧ Y < 4294967296 ∧ step8 s c = Y / 16 ^^^ fours.getD (Y % 16) 0 := by
  have hX : s ^^^ c < 4294967296 := xor_lt32 hs (by omega)
  have e : ∀ Z, Z / 16 ^^^ fours.getD (Z % 16) 0 = shrN 4 Z := fun Z => by rw [fours_eq _ (Nat.mod_lt _ (by decide)), ← shr4]
  refine ⟨_, _, rfl, hX, rfl, ?_, ?_⟩
  · rw [e]; exact shrN_lt hX
  · rw [e, e, step8_fours]
theorem fours_lt (i : Nat) : fours.getD (i % 16) 0 < 4294967296 := by
  rw [fours_eq _ (Nat.mod_lt _ (by decide))]; exact shrN_lt (by have := Nat.mod_lt i (show 0 < 16 by decide); omega)

set_option maxHeartbeats 1000000 in
theorem crc_update (s : Nat) (v : Value) (l : List Nat) (w : World) (hT : Tab w) (hs : s < 4294967296) (h : Rd w 1 v l.length (u8s l)) (hl : ∀ c ∈ l, c < 256) :
    Calls Tryd.prog 63 #[.int .u32 (s : Int), v] w fun e w' => e = .returned (.int .u32 (upd s l : Int)) ∧ w = w' := by
  have hmax : (l.length : Int) ≤ 9223372036854775807 := by have := h.le; unfold maxLen at this; omega
  obtain ⟨p, c, hv⟩ := h.shape
  subst hv
  have H2 := Lib.hid h; clear h
  have HM := Lib.hid hl; clear hl
  have HT := Lib.hid hT; clear hT
  have HX : Hid (∀ k, upd s (l.take k) < 4294967296) := fun k => upd_lt hs _ (fun c hc => HM.out c (List.mem_of_mem_take hc))
  go_enter Tryd.func63, Tryd.ntmps63
  go_wp2_with fail
  go_loop [0, 9] (fun x i => ∃ k : Nat, k ≤ l.length ∧ i = .int .i64 (k : Int) ∧ x = .int .u32 (upd s (l.take k) : Int)) (fun _ i => l.length - (intOf i).toNat)
  case atStart => exact ⟨0, by omega, rfl, rfl⟩
  case round =>
    obtain ⟨k, hk, rfl, rfl⟩ := hrel
    by_cases hlt : k < l.length
    · have hlt' : (k : Int) < (l.length : Int) := by omega
      obtain ⟨b, off, c', e, _, _, hc⟩ := H2.out.at (fun e => by have := congrArg List.length e; rw [u8s_length] at this; simp at this; subst this; simp at hlt)
      simp only [Value.slice.injEq] at e
      obtain ⟨rfl, _, rfl⟩ := e
      have hcell := hc k _ (u8s_get _ _ hlt)
      have hu := HM.out _ (List.getElem_mem hlt)
      have HS := Lib.hid (upd_take_succ s l k hlt)
      have hZ := HX.out k
      clear hc
      generalize upd s (l.take k) = Z at *
      generalize l[k] = u at *
      obtain ⟨X, Y, hX, hX32, hY, hY32, hE⟩ := upd_step Z u hZ hu
      have t1 := HT.out (X % 16) (Nat.mod_lt _ (by decide))
      have t2 := HT.out (Y % 16) (Nat.mod_lt _ (by decide))
      have e1 := u32_xor_nat Z u hZ (by omega)
      have e2 := u32_xor_nat (X / 16) _ (by omega) (fours_lt X)
      have e3 := u32_xor_nat (Y / 16) _ (by omega) (fours_lt Y)
      rw [← hX] at e1
      rw [← hY] at e2
      rw [← hE] at e3
      have HS2 : Hid (upd s (l.take (k + 1)) = step8 Z u) := HS
      clear HS hX hY hE
      generalize step8 Z u = V at *
      generalize fours.getD (X % 16) 0 = F1 at *
      generalize fours.getD (Y % 16) 0 = F2 at *
      have e2' : bits .xor .u32 ((X : Int) / 16) (F1 : Int) = (Y : Int) := e2
      have e3' : bits .xor .u32 ((Y : Int) / 16) (F2 : Int) = (V : Int) := e3
      clear e2 e3
      go_wp2_with fail
      go_round
      case rel => exact ⟨k + 1, by omega, by go_num, by rw [HS2.out]⟩
      case measure => simp [intOf]; omega
    · have hlt' : ¬ (k : Int) < (l.length : Int) := by omega
      have HK : Hid (upd s (l.take k) = upd s l) := by show _ = _; rw [show k = l.length by omega, upd_take_all]
      rw [HK.out]
      clear hk hlt
      go_wp2_with fail
      go_ret
      exact ⟨rfl, rfl⟩

theorem crc_sum (v : Value) (l : List Nat) (w : World) (hT : Tab w) (h : Rd w 1 v l.length (u8s l)) (hl : ∀ c ∈ l, c < 256) :
    Calls Tryd.prog 61 #[v] w fun e w' => e = .returned (.int .u32 (crcOf l : Int)) ∧ w = w' := by
  have hU := upd_lt (show 4294967295 < 4294967296 by decide) l hl
  have HE := Lib.hid (crcOf_xor l hl)
  have HB : Hid (bits .xor .u32 4294967295 ((upd 4294967295 l : Nat) : Int) = ((4294967295 ^^^ upd 4294967295 l : Nat) : Int)) := u32_xor_nat 4294967295 _ (by decide) hU
  have HT := Lib.hid hT
  have H2 := Lib.hid h; clear h
  have HM := Lib.hid hl; clear hl hT hU
  go_enter Tryd.func61, Tryd.ntmps61
  go_wp2_with fail
  refine (crc_update 4294967295 v l _ HT.out (by decide) H2.out HM.out).mono ?_
  rintro e w2 ⟨rfl, rfl⟩
  generalize upd 4294967295 l = X at *
  go_wp2_with fail
  go_ret
  exact ⟨ret_int (by rw [HE.out, ← HB.out]; rfl), rfl⟩

theorem crc_sumOf (v : Value) (l : List Nat) (w : World) (hT : Tab w) (h : Rd w 1 v l.length (u8s l)) (hl : ∀ c ∈ l, c < 256) :
    Calls Tryd.prog 54 #[v] w fun e w' => ∃ r, e = .returned r ∧ Made w w' 5 1 r 4 (u8s (le4 (crcOf l))) := by
  have HT := Lib.hid hT
  have H2 := Lib.hid h; clear h
  have HM := Lib.hid hl; clear hl hT
  go_enter Tryd.func54, Tryd.ntmps54
  go_wp2_with fail
  refine (crc_sum v l _ HT.out H2.out HM.out).mono ?_
  rintro e w2 ⟨rfl, rfl⟩
  have hS := crcOf_lt l
  obtain ⟨S, hSe⟩ : ∃ S, crcOf l = S := ⟨_, rfl⟩
  have HE := Lib.hid (u8s_le4 _ (hSe ▸ hS))
  rw [hSe] at hS ⊢
  have HSe := Lib.hid hSe
  clear hSe
  go_wp2_with fail
  go_ret
  rw [HSe.out]
  refine ⟨_, rfl, ?_, (Below.refl _ _).alloc (Nat.le_refl _) _⟩
  rw [HE.out]
  exact World.ownsRow_lit (base := w.heap.size) w #[.int .u8 ((S : Int) % 256), .int .u8 ((S : Int) / 256 % 256), .int .u8 ((S : Int) / 65536 % 256), .int .u8 ((S : Int) / 16777216)] 4 (Nat.le_refl _) (by simp [maxLen]) (by simp)
end Go.Proofs.YtkgghlhmgolfbaaDoor
