/- Layer 1: the writer's calls. -/
import Derived.Test.YtpphgmgdmdehpaaBitioA
set_option maxRecDepth 20000
namespace Go.Proofs.Ytpphgmgdmdehpaa
open Go Go.RowKit

def BitsPost (p : Nat) (v : Value) (out : List Bool) (w w' : World) : Prop := ∃ v', WriterIn w' p v' out ∧ Upd w w' p v v'

theorem bit_val (x k : Nat) : bits BinOp.and IntKind.u8 ((x : Int) / 2 ^ k % 256) 1 = ((x.testBit k).toNat : Int) := by
  have e : (x : Int) / 2 ^ k % 256 = ((x / 2 ^ k % 256 : Nat) : Int) := by simp
  rw [e]
  have := bits_mask .u8 8 (by decide) wraps_u8 1 (by decide) ((x / 2 ^ k % 256 : Nat) : Int) (Int.natCast_nonneg _) (by have : x / 2 ^ k % 256 < 256 := Nat.mod_lt _ (by omega); simp; omega)
  simp only [Int.reduceSub, Int.pow_one] at this
  rw [this]
  rw [testBit_toNat]
  omega

set_option maxHeartbeats 400000 in
theorem wbits (p : Nat) (v : Value) (bs : List Bool) (x n : Nat) (w : World) (h : WriterIn w p v bs) (hn : n ≤ 64) (hb : bs.length + 64 ≤ 1125899906842624) :
    Calls Try.prog 17 #[.pointer (some ⟨p, 0, none⟩), .int .u64 x, .int .i64 n] w fun e w' => e = .returned (.int .i64 0) ∧ BitsPost p v (bs ++ fieldBits x n) w w' := by
  go_enter Try.func17, Try.ntmps17
  go_wp2
  go_loopw [17] (fun c wr => ∃ (k : Nat) (v' : Value), k ≤ n ∧ c = .int .i64 k ∧ WriterIn wr p v' (bs ++ (fieldBits x n).take k) ∧ Upd w wr p v v') (fun c _ => n - (intOf c).toNat)
  case atStart => exact ⟨0, v, Nat.zero_le _, rfl, by simpa using h, Upd.refl _ _ _⟩
  case round =>
    obtain ⟨k, v', hk, rfl, hW, hU⟩ := hrel
    by_cases hlt : k < n
    · go_wp2_with fail
      refine (push_any p v' _ (x.testBit (n - 1 - k)) _ _ hW (by rw [List.length_append, List.length_take, fieldBits_length]; omega) (bit_val x (n - 1 - k))).mono ?_
      rintro e w' ⟨rfl, v2, hW2, hU2⟩
      have HR : Hid (BitsPost p v (bs ++ (fieldBits x n).take (k + 1)) w w') := ⟨v2, by rw [fieldBits_take_succ x n k hlt, ← List.append_assoc]; exact hW2, hU.trans hU2⟩
      clear hW hU hW2 hU2
      go_wp2
      go_roundw
      case rel =>
        obtain ⟨v2, hW2, hU2⟩ := HR.out
        exact ⟨k + 1, v2, by omega, by go_num, hW2, hU2⟩
      case measure => simp [intOf]; omega
    · go_wp2
      go_ret
      obtain rfl : k = n := by omega
      exact ⟨rfl, v', by rwa [List.take_of_length_le (by rw [fieldBits_length]; omega)] at hW, hU⟩

theorem wbits_nil (x n : Int) (w : World) : Calls Try.prog 17 #[.pointer none, .int .u64 x, .int .i64 n] w fun e w' => e = .returned (.int .i64 1) ∧ w = w' := by
  go_enter Try.func17, Try.ntmps17
  go_wp2
  go_ret
  exact ⟨rfl, rfl⟩

theorem wbits_bad (p : Nat) (x n : Int) (w : World) (h : n < 0 ∨ 64 < n) : Calls Try.prog 17 #[.pointer (some ⟨p, 0, none⟩), .int .u64 x, .int .i64 n] w fun e w' => e = .returned (.int .i64 2) ∧ w = w' := by
  rcases h with h | h
  · go_enter Try.func17, Try.ntmps17
    go_wp2
    go_ret
    exact ⟨rfl, rfl⟩
  · have h' : ¬ n < 0 := by omega
    go_enter Try.func17, Try.ntmps17
    go_wp2
    go_ret
    exact ⟨rfl, rfl⟩

theorem new_writer (w : World) : Calls Try.prog 16 #[] w fun e w' => e = .returned (.pointer (some ⟨w.heap.size, 0, none⟩)) ∧ WriterIn w' w.heap.size (.slice none 0 0) [] ∧ Below w.heap.size w w' := by
  go_enter Try.func16, Try.ntmps16
  go_wp2
  go_ret
  exact ⟨rfl, ⟨Blk.new _ _ _, World.ownsRow_nil _ _ _ _, by simp [Value.ownBlock]⟩, (Below.refl _ _).alloc (Nat.le_refl _) _⟩

theorem WriterIn.mods {S : Nat → Prop} {w w' : World} {p : Nat} {v : Value} {bs : List Bool} (h : WriterIn w p v bs) (hm : Mods S w w') (hp : ¬ S p) (hv : ∀ k, v.ownBlock = some k → ¬ S k) : WriterIn w' p v bs :=
  ⟨hm.blk h.blk hp, hm.owns h.own hv, h.ne⟩
theorem WriterIn.below {w w' : World} {p : Nat} {v : Value} {bs : List Bool} (h : WriterIn w p v bs) (hb : Below w.heap.size w w') : WriterIn w' p v bs := h.mods (Mods.of_below hb (fun _ => False)) (fun e => e) (fun _ _ e => e)

set_option maxHeartbeats 400000 in
theorem clone_any (v : Value) (n : Nat) (vs : List Value) (w : World) (h : Rd w 1 v n vs) (h1 : ∀ u ∈ vs, u.oneCell' = true) (hn : n ≤ 140737488355328) :
    Calls Try.prog 43 #[v] w fun e w' => ∃ r, e = .returned r ∧ Made w w' 5 1 r n vs := by
  obtain ⟨i0, hi, hz0, hz1, hz2⟩ := info_parts Try.infoU8
  obtain ⟨p, c, rfl, hl, hc1, hc2, hnil, hcell⟩ := h
  have hmax : n ≤ maxLen := by unfold maxLen; omega
  cases p with
  | none =>
    obtain ⟨rfl, rfl⟩ := hnil rfl
    obtain rfl : vs = [] := List.eq_nil_of_length_eq_zero (by simpa using hl)
    go_enter Try.func43, Try.ntmps43
    go_wp2
    go_ret
    exact ⟨_, rfl, World.ownsRow_nil _ _ _ _, Below.refl _ _⟩
  | some ad =>
    have HC := Lib.hid hcell; clear hcell hnil
    go_enter Try.func43, Try.ntmps43
    go_wp2_with (at_builtin; refine wpList_append_own _ rfl _ _ 39 rfl w.heap.size 5 i0 (.int .u8 0) 1 1 Try.underlying39 hi hz0 hz1 hz2 rfl (by decide) _ _ _ rfl (World.ownsRow_nil _ _ _ _) ad n c vs rfl ?c1 ?c2 ?c3 ?c4 ?c5 ?c6 ?_)
    case c1 => exact hl
    case c2 => exact HC.out ad rfl
    case c3 => exact h1
    case c4 => omega
    case c5 => omega
    case c6 => exact Nat.le_refl _
    intro v' w1 hown hgrow hx
    clear hx
    have HO := Lib.hid hown; have HG := Lib.hid hgrow; clear hown hgrow
    go_wp2
    go_ret
    exact ⟨_, rfl, HO.out, (Below.refl _ _).grown HG.out (Nat.le_refl _) (fun k e => by cases e)⟩

theorem wbytes_nil (w : World) : Calls Try.prog 22 #[.pointer none] w fun e w' => e = .returned (.slice none 0 0) ∧ w = w' := by
  go_enter Try.func22, Try.ntmps22
  go_wp2
  go_ret
  exact ⟨rfl, rfl⟩

theorem wbytes (p : Nat) (v : Value) (bs : List Bool) (w : World) (h : WriterIn w p v bs) (hb : bs.length ≤ 1125899906842624) : Calls Try.prog 22 #[.pointer (some ⟨p, 0, none⟩)] w
    fun e w' => ∃ r, e = .returned r ∧ Made w w' 5 1 r (pack bs).length (u8s (pack bs)) := by
  have h1 : w.cell? ⟨p, 1, none⟩ = some v := by rw [h.blk.cell]; rfl
  have hr : Rd w 1 v (pack bs).length (u8s (pack bs)) := Rd.of_owns h.own
  have hlen : (pack bs).length ≤ 140737488355328 := by rw [pack_length]; omega
  clear h
  go_enter Try.func22, Try.ntmps22
  go_wp2_with (go_at_call 43; refine (clone_any _ _ _ _ hr (u8s_oneCell _) hlen).mono ?_; rintro e w' ⟨r, rfl, hm⟩)
  go_ret
  exact ⟨_, rfl, hm⟩

end Go.Proofs.Ytpphgmgdmdehpaa
