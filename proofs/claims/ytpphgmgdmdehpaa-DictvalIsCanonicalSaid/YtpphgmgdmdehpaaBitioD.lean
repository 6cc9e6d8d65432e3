/- Layer 1: reading bits, and the end. -/
import Derived.Test.YtpphgmgdmdehpaaBitioC
set_option maxRecDepth 20000
namespace Go.Proofs.Ytpphgmgdmdehpaa
open Go Go.RowKit

theorem rbits_nil (n : Int) (w : World) : Calls Try.prog 56 #[.pointer none, .int .i64 n] w fun e w' => e = .returned (.tuple #[.int .u64 0, .int .i64 1]) ∧ w = w' := by
  go_enter Try.func56, Try.ntmps56
  go_wp2
  go_ret2
  exact ⟨rfl, rfl⟩

theorem rbits_bad (p : Nat) (n : Int) (w : World) (h : n < 0 ∨ 64 < n) : Calls Try.prog 56 #[.pointer (some ⟨p, 0, none⟩), .int .i64 n] w fun e w' => e = .returned (.tuple #[.int .u64 0, .int .i64 2]) ∧ w = w' := by
  rcases h with h | h
  · go_enter Try.func56, Try.ntmps56
    go_wp2
    go_ret2
    exact ⟨rfl, rfl⟩
  · have h' : ¬ n < 0 := by omega
    go_enter Try.func56, Try.ntmps56
    go_wp2
    go_ret2
    exact ⟨rfl, rfl⟩

theorem ReaderIn.drewN {w : World} {p : Nat} {v : Value} {i : Nat} {bs : List Nat} (h : ReaderIn w p v i bs) (d : Nat) : ReaderIn (w.drewN d) p v i bs := h.mods (Mods.drewN (fun _ => False) w d) (fun h => h) (fun _ _ h => h)

set_option maxHeartbeats 400000 in
theorem rbits_eof (p : Nat) (v : Value) (i n : Nat) (bs : List Nat) (w : World) (h : ReaderIn w p v i bs) (hn : n ≤ 64) (hlt : 8 * bs.length < i + n) :
    Calls Try.prog 56 #[.pointer (some ⟨p, 0, none⟩), .int .i64 n] w fun e w' => e = .returned (.tuple #[.int .u64 0, .int .i64 3]) ∧ ∃ d, w' = w.drewN d := by
  have hle := h.le
  have hl : (8 * (bs.length : Int) - i) < (n : Int) := by omega
  have H := Lib.hid h; clear h
  go_enter Try.func56, Try.ntmps56
  go_wp2_with (go_at_call 27; refine (left_any _ _ _ _ _ H.out).mono ?_; rintro e w' ⟨rfl, d, rfl⟩)
  go_ret2
  exact ⟨rfl, d, rfl⟩

theorem numOf_seg_lt (bs : List Nat) (i k n : Nat) (hk : k < n) (hn : n ≤ 64) (h : i + n ≤ 8 * bs.length) : numOf (seg bs i k) < 9223372036854775808 := by
  have := numOf_lt (seg bs i k)
  rw [seg_length bs i k (by omega)] at this
  have h2 : 2 ^ k ≤ 2 ^ 63 := Nat.pow_le_pow_right (by omega) (by omega)
  omega

structure RBitsPost (p : Nat) (v : Value) (i : Nat) (bs : List Nat) (w w' : World) : Prop where
  rd : ReaderIn w' p v i bs
  mods : Mods (fun k => k = p) w w'

theorem reader_moved {p : Nat} {v : Value} {i n : Nat} {bs : List Nat} {w : World} (h : ReaderIn w p v i bs) (hle : i + n ≤ 8 * bs.length) (d : Nat) :
    RBitsPost p v (i + n) bs w ((w.setCell ⟨p, 0, none⟩ (.int .i64 ((i : Int) + n))).drewN d) := by
  have hm : Mods (fun k => k = p) w (w.setCell ⟨p, 0, none⟩ (.int .i64 ((i : Int) + n))) := Mods.set _ _ _ _ (fun _ => rfl)
  have hb := h.blk.set 0 (.int .i64 ((i : Int) + n))
  have h1 : ReaderIn (w.setCell ⟨p, 0, none⟩ (.int .i64 ((i : Int) + n))) p v (i + n) bs := ⟨by simpa using hb, h.rd.mods hm (fun k hk e => h.ne (by rw [hk, e])), h.ne, hle, h.small, h.byte⟩
  exact ⟨h1.drewN d, hm.trans (Mods.drewN (fun _ => False) _ d) (fun _ _ e => e.elim)⟩

set_option maxHeartbeats 400000 in
theorem rbits (p : Nat) (v : Value) (i n : Nat) (bs : List Nat) (w : World) (h : ReaderIn w p v i bs) (hn : n ≤ 64) (hle : i + n ≤ 8 * bs.length) :
    Calls Try.prog 56 #[.pointer (some ⟨p, 0, none⟩), .int .i64 n] w fun e w' => e = .returned (.tuple #[.int .u64 (numOf (seg bs i n)), .int .i64 0]) ∧ RBitsPost p v (i + n) bs w w' := by
  have hl : ¬ (8 * (bs.length : Int) - i) < (n : Int) := by omega
  have hsm := h.small
  have H := Lib.hid h; clear h
  go_enter Try.func56, Try.ntmps56
  go_wp2_with (go_at_call 27; refine (left_any _ _ _ _ _ H.out).mono ?_; rintro e w' ⟨rfl, d, rfl⟩)
  go_loopw [6, 21] (fun x c wr => ∃ (k d : Nat), k ≤ n ∧ c = .int .i64 k ∧ x = .int .u64 (numOf (seg bs i k)) ∧ wr = w.drewN d) (fun _ c _ => n - (intOf c).toNat)
  case atStart => exact ⟨0, _, Nat.zero_le _, rfl, by rw [seg_zero]; rfl, rfl⟩
  case round =>
    obtain ⟨k, d, hk, rfl, rfl, rfl⟩ := hrel
    by_cases hlt : k < n
    · have hb := numOf_seg_lt bs i k n hlt hn hle
      have HS : Hid (numOf (seg bs i (k + 1)) = numOf (seg bs i k) * 2 + (bitAt bs (i + k)).toNat) := by rw [seg_succ bs i k (by omega)]; exact numOf_push _ _
      have hb1 : (bitAt bs (i + k)).toNat ≤ 1 := by cases bitAt bs (i + k) <;> simp
      have HO := Lib.hid (u64_or_bit (numOf (seg bs i k)) (bitAt bs (i + k)).toNat hb1 (by omega))
      generalize hX : numOf (seg bs i k) = X at *
      clear hX
      have hb0 : (0 : Int) ≤ X := by omega
      go_wp2_with (go_at_call 47; refine (peek_any _ _ _ k _ _ (H.out.drewN d) (by omega)).mono ?_; rintro e w' ⟨rfl, d', rfl⟩)
      go_roundw
      case rel =>
        exact ⟨k + 1, _, by omega, by go_num, by rw [HS.out, ← HO.out], rfl⟩
      case measure => simp [intOf]; omega
    · obtain rfl : k = n := by omega
      have H2 := H.out
      have h0 : w.cell? ⟨p, 0, none⟩ = some (.int .i64 i) := by rw [H2.blk.cell]; rfl
      have f0 : w.frozen? ⟨p, 0, none⟩ = false := H2.blk.free 0
      have hlen := H2.le
      have H3 := Lib.hid H2
      clear H2
      go_wp2
      go_ret2
      exact ⟨rfl, reader_moved H3.out hle d⟩

/-- What End answers. -/
def endOf (bs : List Nat) (i : Nat) : Int := if 8 ≤ 8 * bs.length - i then 4 else if ((unpack bs).drop i).all (fun b => !b) then 0 else 4

theorem rend_nil (w : World) : Calls Try.prog 30 #[.pointer none] w fun e w' => e = .returned (.int .i64 1) ∧ w = w' := by
  go_enter Try.func30, Try.ntmps30
  go_wp2
  go_ret
  exact ⟨rfl, rfl⟩

theorem endOf_zero {bs : List Nat} {i : Nat} (hle : i ≤ 8 * bs.length) (h8 : ¬ 8 ≤ 8 * bs.length - i) (h : ∀ j, j < 8 * bs.length - i → bitAt bs (i + j) = false) : endOf bs i = 0 := by
  rw [endOf, if_neg h8, if_pos]
  rw [List.all_eq_true]
  intro b hb
  obtain ⟨j, hj, rfl⟩ := List.mem_iff_getElem.1 hb
  have hj' : j < 8 * bs.length - i := by simpa [unpack_length] using hj
  have := unpack_get bs (i + j) (by omega)
  rw [h j hj'] at this
  rw [List.getElem_drop]
  rw [List.getElem?_eq_getElem (by rw [unpack_length]; omega)] at this
  simpa using this
theorem endOf_four {bs : List Nat} {i j : Nat} (hle : i ≤ 8 * bs.length) (h8 : ¬ 8 ≤ 8 * bs.length - i) (hj : j < 8 * bs.length - i) (h : bitAt bs (i + j) = true) : endOf bs i = 4 := by
  rw [endOf, if_neg h8, if_neg]
  rw [List.all_eq_true]
  intro hall
  have := unpack_get bs (i + j) (by omega)
  rw [h] at this
  have hm : true ∈ (unpack bs).drop i := by
    rw [List.mem_iff_getElem?]
    exact ⟨j, by rw [List.getElem?_drop]; exact this⟩
  simpa using hall true hm

set_option maxHeartbeats 400000 in
theorem rend (p : Nat) (v : Value) (i : Nat) (bs : List Nat) (w : World) (h : ReaderIn w p v i bs) :
    Calls Try.prog 30 #[.pointer (some ⟨p, 0, none⟩)] w fun e w' => e = .returned (.int .i64 (endOf bs i)) ∧ ∃ d, w' = w.drewN d := by
  have hle := h.le
  have hsm := h.small
  have H := Lib.hid h; clear h
  by_cases h8 : 8 ≤ 8 * bs.length - i
  · have hl : (8 : Int) ≤ 8 * (bs.length : Int) - i := by omega
    have HE : Hid (endOf bs i = 4) := by show endOf bs i = 4; rw [endOf, if_pos h8]
    go_enter Try.func30, Try.ntmps30
    go_wp2_with (go_at_call 27; refine (left_any _ _ _ _ _ H.out).mono ?_; rintro e w' ⟨rfl, d, rfl⟩)
    go_ret
    exact ⟨ret_int HE.out.symm, d, rfl⟩
  · have hl : ¬ (8 : Int) ≤ 8 * (bs.length : Int) - i := by omega
    go_enter Try.func30, Try.ntmps30
    go_wp2_with (go_at_call 27; refine (left_any _ _ _ _ _ H.out).mono ?_; rintro e w' ⟨rfl, d, rfl⟩)
    go_loopw [12] (fun c wr => ∃ (k d : Nat), k ≤ 8 * bs.length - i ∧ c = .int .i64 k ∧ Hid (∀ j, j < k → bitAt bs (i + j) = false) ∧ wr = w.drewN d) (fun c _ => 8 * bs.length - i - (intOf c).toNat)
    case atStart => exact ⟨0, _, Nat.zero_le _, rfl, fun j hj => by omega, rfl⟩
    case round =>
      obtain ⟨k, d, hk, rfl, hall, rfl⟩ := hrel
      by_cases hlt : k < 8 * bs.length - i
      · have hlt' : (k : Int) < 8 * (bs.length : Int) - i := by omega
        cases hbit : bitAt bs (i + k) with
        | true =>
          have HB := Lib.hid hbit; clear hbit
          have hz : (((bitAt bs (i + k)).toNat : Int) != 0) = true := by rw [HB.out]; decide
          go_wp2_with (go_at_call 47; refine (peek_any _ _ _ k _ _ (H.out.drewN d) (by omega)).mono ?_; rintro e w' ⟨rfl, d', rfl⟩)
          go_ret
          exact ⟨ret_int (endOf_four hle h8 hlt HB.out).symm, _, rfl⟩
        | false =>
          have HB := Lib.hid hbit; clear hbit
          have hz : (((bitAt bs (i + k)).toNat : Int) != 0) = false := by rw [HB.out]; decide
          go_wp2_with (go_at_call 47; refine (peek_any _ _ _ k _ _ (H.out.drewN d) (by omega)).mono ?_; rintro e w' ⟨rfl, d', rfl⟩)
          go_roundw
          case rel =>
            exact ⟨k + 1, _, by omega, by go_num, fun j hj => if e : j = k then e ▸ HB.out else hall.out j (by omega), rfl⟩
          case measure => simp [intOf]; omega
      · have hge : ¬ (k : Int) < 8 * (bs.length : Int) - i := by omega
        obtain rfl : k = 8 * bs.length - i := by omega
        go_wp2
        go_ret
        exact ⟨ret_int (endOf_zero hle h8 hall.out).symm, d, rfl⟩

end Go.Proofs.Ytpphgmgdmdehpaa
