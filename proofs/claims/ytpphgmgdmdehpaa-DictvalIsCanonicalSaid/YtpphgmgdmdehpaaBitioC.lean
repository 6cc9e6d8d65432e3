/- Layer 1: the reader's calls. -/
import Derived.Test.YtpphgmgdmdehpaaBitioB
set_option maxRecDepth 20000
namespace Go.Proofs.Ytpphgmgdmdehpaa
open Go Go.RowKit

/-- A reader at block p of the bytes bs, at bit number i; its slice of bytes v. -/
structure ReaderIn (w : World) (p : Nat) (v : Value) (i : Nat) (bs : List Nat) : Prop where
  blk : Blk w p [.int .i64 i, v]
  rd : Rd w 1 v bs.length (u8s bs)
  ne : v.ownBlock ≠ some p
  le : i ≤ 8 * bs.length
  small : bs.length ≤ 140737488355328
  byte : ∀ x ∈ bs, x < 256

theorem ReaderIn.mods {S : Nat → Prop} {w w' : World} {p : Nat} {v : Value} {i : Nat} {bs : List Nat} (h : ReaderIn w p v i bs) (hm : Mods S w w') (hp : ¬ S p) (hv : ∀ k, v.ownBlock = some k → ¬ S k) : ReaderIn w' p v i bs :=
  ⟨hm.blk h.blk hp, h.rd.mods hm hv, h.ne, h.le, h.small, h.byte⟩

set_option maxHeartbeats 400000 in
theorem new_reader (b : Value) (bs : List Nat) (w : World) (h : Rd w 1 b bs.length (u8s bs)) (hn : bs.length ≤ 140737488355328) (h8 : ∀ x ∈ bs, x < 256) :
    Calls Try.prog 25 #[b] w fun e w' => ∃ p v, e = .returned (.pointer (some ⟨p, 0, none⟩)) ∧ ReaderIn w' p v 0 bs ∧ Below w.heap.size w w' ∧ w.heap.size ≤ p ∧ (∀ k, v.ownBlock = some k → w.heap.size ≤ k ∧ k < w'.heap.size) := by
  go_enter Try.func25, Try.ntmps25
  go_wp2_with (go_at_call 43; refine (clone_any _ _ _ _ h (u8s_oneCell _) hn).mono ?_; rintro e w' ⟨r, rfl, hm⟩; obtain ⟨rp, rc, hsh⟩ := (Rd.of_owns hm.1).shape; rw [hsh]; rw [hsh] at hm; clear hsh)
  go_ret
  have hlt := owns_lt hm.1
  refine ⟨w'.heap.size, _, rfl, ⟨Blk.new _ _ _, ?_, ?_, Nat.zero_le _, hn, h8⟩, hm.2.alloc hm.2.size _, hm.2.size, fun k hk => ⟨(hm.1.lt k hk).1, by have := (hm.1.lt k hk).2; simp; omega⟩⟩
  · exact (Rd.of_owns hm.1).below ((Below.refl _ _).alloc (Nat.le_refl _) _)
  · intro e; have := hlt _ e; omega

theorem left_nil (w : World) : Calls Try.prog 27 #[.pointer none] w fun e w' => e = .returned (.int .i64 0) ∧ ∃ n, w' = w.drewN n := by
  go_enter Try.func27, Try.ntmps27
  go_wp2
  go_ret
  exact ⟨rfl, 0, rfl⟩

theorem left_any (p : Nat) (v : Value) (i : Nat) (bs : List Nat) (w : World) (h : ReaderIn w p v i bs) :
    Calls Try.prog 27 #[.pointer (some ⟨p, 0, none⟩)] w fun e w' => e = .returned (.int .i64 (8 * bs.length - i)) ∧ ∃ n, w' = w.drewN n := by
  have h0 : w.cell? ⟨p, 0, none⟩ = some (.int .i64 i) := by rw [h.blk.cell]; rfl
  have h1 : w.cell? ⟨p, 1, none⟩ = some v := by rw [h.blk.cell]; rfl
  have hle := h.le; have hsm := h.small
  obtain ⟨a, c, rfl, _⟩ := h.rd
  clear h
  generalize bs.length = n at *
  have hw1 : IntKind.i64.wrap (8 * (n : Int)) = 8 * n := IntWalk.i64_in _ (by omega)
  have hw2 : IntKind.i64.wrap (8 * (n : Int) - i) = 8 * n - i := IntWalk.i64_in _ (by omega)
  go_enter Try.func27, Try.ntmps27
  go_wp2
  go_quiet (fail)
  go_wp2
  go_ret
  exact ⟨rfl, nq, rfl⟩

theorem peek_any (p : Nat) (v : Value) (i j : Nat) (bs : List Nat) (w : World) (h : ReaderIn w p v i bs) (hj : i + j < 8 * bs.length) :
    Calls Try.prog 47 #[.pointer (some ⟨p, 0, none⟩), .int .i64 j] w fun e w' => e = .returned (.int .u8 (bitAt bs (i + j)).toNat) ∧ ∃ n, w' = w.drewN n := by
  have h0 : w.cell? ⟨p, 0, none⟩ = some (.int .i64 i) := by rw [h.blk.cell]; rfl
  have h1 : w.cell? ⟨p, 1, none⟩ = some v := by rw [h.blk.cell]; rfl
  have hsm := h.small
  have hq : (i + j) / 8 < bs.length := by omega
  obtain ⟨b, off, c, rfl, hc1, hc2, hcell⟩ := h.rd.at (fun e => by have := congrArg List.length e; simp [u8s_length] at this; subst this; simp at hq)
  have hcq' := hcell ((i + j) / 8) _ (u8s_get bs _ hq)
  have hb : bs[(i + j) / 8] < 256 := h.byte _ (List.getElem_mem _)
  have hbit : bits BinOp.and IntKind.u8 ((bs[(i + j) / 8] : Int) / 2 ^ (7 - (i + j) % 8)) 1 = ((bitAt bs (i + j)).toNat : Int) := by
    rw [bit_of_byte _ _ hb]
    simp only [bitAt, List.getD, List.getElem?_eq_getElem hq]; rfl
  have HB := Lib.hid hbit
  clear h hcell hbit
  generalize bs[(i + j) / 8] = x at *
  generalize hY : ((bitAt bs (i + j)).toNat : Int) = Y at *
  clear hY
  generalize bs.length = n at *
  have hlt : ((i : Int) + j) / 8 < (n : Int) := by omega
  have hge : 0 ≤ ((i : Int) + j) / 8 := by omega
  have hd : (((i : Int) + j) / 8).toNat = (i + j) / 8 := by omega
  have hw1 : IntKind.i64.wrap (((i : Int) + j) / 8) = ((i : Int) + j) / 8 := IntWalk.i64_in _ (by omega)
  have hs0 : (0 : Int) ≤ 7 - ((i : Int) + j) % 8 := by omega
  have hs1 : 7 - ((i : Int) + j) % 8 < 8 := by omega
  go_enter Try.func47, Try.ntmps47
  go_wp2
  go_quiet ((go_at_call 54; exact Calls.quiet_of_same (shift_any _ _ (by omega) (by omega))))
  go_wp2
  go_ret
  exact ⟨congrArg (fun b => Ending.returned (.int .u8 b)) HB.out, nq, rfl⟩

end Go.Proofs.Ytpphgmgdmdehpaa
