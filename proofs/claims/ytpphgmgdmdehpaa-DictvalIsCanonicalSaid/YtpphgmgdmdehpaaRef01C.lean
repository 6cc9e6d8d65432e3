/- Layer 1: the reference's Reader. -/
import Derived.Test.YtpphgmgdmdehpaaRef01B
set_option linter.unusedVariables false
set_option maxRecDepth 20000
namespace Go.Proofs.Ytpphgmgdmdehpaa
open Go Go.RowKit

/-- The reference's reader at block q: the bits that remain. -/
structure RefIn (w : World) (q : Nat) (v : Value) (bs : List Bool) : Prop where
  blk : Blk w q [v]
  rd : Rd w 1 v bs.length (bls bs)
  ne : bs ≠ [] → v.ownBlock ≠ some q
theorem RefIn.mods {S : Nat → Prop} {w w' : World} {q : Nat} {v : Value} {bs : List Bool} (h : RefIn w q v bs) (hm : Mods S w w') (hq : ¬ S q) (hv : bs ≠ [] → ∀ k, v.ownBlock = some k → ¬ S k) : RefIn w' q v bs := by
  refine ⟨hm.blk h.blk hq, ?_, h.ne⟩
  by_cases he : bs = []
  · subst he
    obtain ⟨p, c, hv, h1, h2, h3, h4, h5⟩ := h.rd
    exact ⟨p, c, hv, h1, h2, h3, h4, fun ad _ j u hu => by simp [bls] at hu⟩
  · exact h.rd.mods hm (hv he)
theorem RefIn.drewN {w : World} {q : Nat} {v : Value} {bs : List Bool} (h : RefIn w q v bs) (d : Nat) : RefIn (w.drewN d) q v bs := h.mods (Mods.drewN (fun _ => False) w d) (fun h => h) (fun _ _ _ h => h)
theorem RefIn.below {w w' : World} {q : Nat} {v : Value} {bs : List Bool} (h : RefIn w q v bs) (hb : Below w.heap.size w w') : RefIn w' q v bs := h.mods (Mods.of_below hb (fun _ => False)) (fun h => h) (fun _ _ _ h => h)

theorem rd_bool_cell {w : World} {v : Value} {l : List Bool} (h : Rd w 1 v l.length (bls l)) (j : Nat) (hj : j < l.length) : ∃ b off c, v = .slice (some ⟨b, off, none⟩) l.length c ∧ w.cell? ⟨b, off + j, none⟩ = some (.bool l[j]) ∧ b < w.heap.size := by
  obtain ⟨b, off, c, hv, _, _, hc⟩ := h.at (fun e => by have := congrArg List.length e; rw [bls_length] at this; simp at this; subst this; simp at hj)
  have hc' := hc j _ (bls_get l j hj)
  exact ⟨b, off, c, hv, hc', World.block_lt_of_cell? w _ hc'⟩

theorem ref_rbits_bad (q : Nat) (n : Int) (w : World) (h : n < 0 ∨ 64 < n) : Calls Try.prog 46 #[.pointer (some ⟨q, 0, none⟩), .int .i64 n] w fun e w' => e = .returned (.tuple #[.int .u64 0, .int .i64 2]) ∧ w = w' := by
  rcases h with h | h
  · go_enter Try.func46, Try.ntmps46
    go_wp2
    go_ret2
    exact ⟨rfl, rfl⟩
  · have h' : ¬ n < 0 := by omega
    go_enter Try.func46, Try.ntmps46
    go_wp2
    go_ret2
    exact ⟨rfl, rfl⟩

theorem ref_rbits_eof (q : Nat) (v : Value) (n : Nat) (bs : List Bool) (w : World) (h : RefIn w q v bs) (hn : n ≤ 64) (hlt : bs.length < n) :
    Calls Try.prog 46 #[.pointer (some ⟨q, 0, none⟩), .int .i64 n] w fun e w' => e = .returned (.tuple #[.int .u64 0, .int .i64 3]) ∧ w = w' := by
  have h0 : w.cell? ⟨q, 0, none⟩ = some v := by rw [h.blk.cell]; rfl
  obtain ⟨p, c, hv⟩ := h.rd.shape
  subst hv
  clear h
  have hl : (bs.length : Int) < (n : Int) := by omega
  go_enter Try.func46, Try.ntmps46
  go_wp2
  go_ret2
  exact ⟨rfl, rfl⟩

structure RefBitsPost (q : Nat) (v : Value) (out : List Bool) (w : World) (v' : Value) (w' : World) : Prop where
  rd : RefIn w' q v' out
  mods : Mods (fun k => k = q) w w'
  own : out ≠ [] → v'.ownBlock = v.ownBlock

theorem numOf_take_succ (bs : List Bool) (k : Nat) (hk : k < bs.length) : numOf (bs.take (k + 1)) = numOf (bs.take k) * 2 + bs[k].toNat := by
  rw [List.take_add_one, List.getElem?_eq_getElem hk]; exact numOf_push _ _
theorem numOf_take_lt (bs : List Bool) (k n : Nat) (hk : k < n) (hn : n ≤ 64) : numOf (bs.take k) < 9223372036854775808 := by
  have := numOf_lt (bs.take k)
  have h2 : 2 ^ (bs.take k).length ≤ 2 ^ 63 := Nat.pow_le_pow_right (by omega) (by rw [List.length_take]; omega)
  omega

theorem ref_moved {q : Nat} {p : Option Addr} {c n : Nat} {bs : List Bool} {w : World} (h : RefIn w q (.slice p bs.length c) bs) (hn : n ≤ bs.length) (v' : Value)
    (hv : (n < bs.length → ∃ b off, p = some ⟨b, off, none⟩ ∧ v' = .slice (some ⟨b, off + n, none⟩) (bs.length - n) (c - n)) ∧ (n = bs.length → ∃ p' c', v' = .slice p' 0 c' ∧ c' ≤ maxLen ∧ (p' = none → c' = 0))) :
    RefBitsPost q (.slice p bs.length c) (bs.drop n) w v' (w.setCell ⟨q, 0, none⟩ v') := by
  have hm : Mods (fun k => k = q) w (w.setCell ⟨q, 0, none⟩ v') := Mods.set _ _ _ _ (fun _ => rfl)
  have hb : Blk (w.setCell ⟨q, 0, none⟩ v') q [v'] := by simpa using h.blk.set 0 v'
  by_cases hlt : n < bs.length
  · obtain ⟨b, off, rfl, rfl⟩ := hv.1 hlt
    have hne : bs ≠ [] := fun e => by rw [e] at hlt; simp at hlt
    have hbq : b ≠ q := fun e => h.ne hne (by simp [Value.ownBlock, e])
    obtain ⟨b', off', c', e, h1, h2, h3⟩ := h.rd.at (fun e => by have := congrArg List.length e; rw [bls_length] at this; simp at this; exact hne this)
    simp only [Value.slice.injEq, Option.some.injEq, Addr.mk.injEq, and_true, true_and] at e
    obtain ⟨⟨rfl, rfl⟩, rfl⟩ := e
    refine ⟨⟨hb, ⟨some ⟨b, off + n, none⟩, c - n, by rw [List.length_drop], by simp [bls], by rw [List.length_drop]; omega, by omega, (fun e => by cases e), ?_⟩, fun _ => by simp [Value.ownBlock]; exact hbq⟩, hm, fun _ => rfl⟩
    intro ad e j u hu
    cases e
    have hu' : (bls bs)[n + j]? = some u := by
      simp only [bls, List.map_drop, List.getElem?_drop] at hu ⊢
      exact hu
    have hc := h3 (n + j) u hu'
    have e1 : (⟨b, off + n, none⟩ : Addr).add j = ⟨b, off + (n + j), none⟩ := by unfold Addr.add; split <;> simp_all [Nat.add_assoc]
    rw [e1]
    exact hm.cell hc (fun e => hbq e)
  · obtain ⟨p', c', rfl, hc', hp'⟩ := hv.2 (by omega)
    have e : bs.drop n = [] := List.drop_eq_nil_of_le (by omega)
    rw [e]
    exact ⟨⟨hb, ⟨p', c', rfl, by simp [bls], by simp, hc', fun e => ⟨rfl, hp' e⟩, fun ad _ j u hu => by simp [bls] at hu⟩, fun h => absurd rfl h⟩, hm, fun h => absurd rfl h⟩

def RefBitsQ (q : Nat) (v : Value) (n : Nat) (bs : List Bool) (w : World) (e : Ending) (w' : World) : Prop :=
  e = .returned (.tuple #[.int .u64 (numOf (bs.take n)), .int .i64 0]) ∧ ∃ v', RefBitsPost q v (bs.drop n) w v' w'

set_option maxHeartbeats 1000000 in
theorem ref_rbits (q : Nat) (v : Value) (n : Nat) (bs : List Bool) (w : World) (h : RefIn w q v bs) (hn : n ≤ 64) (hle : n ≤ bs.length) (hb : bs.length ≤ 70368744177664) :
    Calls Try.prog 46 #[.pointer (some ⟨q, 0, none⟩), .int .i64 n] w (RefBitsQ q v n bs w) := by
  have h0 : w.cell? ⟨q, 0, none⟩ = some v := by rw [h.blk.cell]; rfl
  have f0 : w.frozen? ⟨q, 0, none⟩ = false := h.blk.free 0
  obtain ⟨p, c, hv⟩ := h.rd.shape
  subst hv
  have hcap : bs.length ≤ c ∧ c ≤ maxLen ∧ (p = none → c = 0) := by
    obtain ⟨_, _, e, _, h1, h2, h3, _⟩ := h.rd
    simp only [Value.slice.injEq] at e
    obtain ⟨rfl, _, rfl⟩ := e
    exact ⟨h1, h2, fun e => (h3 e).2⟩
  have HC := Lib.hid (rd_bool_cell h.rd)
  have H := Lib.hid h
  have HCap := Lib.hid hcap
  have hc1 := hcap.1
  have hc2 : c ≤ 9223372036854775807 := by have := hcap.2.1; unfold maxLen at this; omega
  clear h hcap
  have hl : ¬ (bs.length : Int) < (n : Int) := by omega
  go_enter Try.func46, Try.ntmps46
  go_wp2
  go_loop [6, 7] (fun x i => ∃ k : Nat, k ≤ n ∧ i = .int .i64 k ∧ x = .int .u64 (numOf (bs.take k))) (fun _ i => n - (intOf i).toNat)
  case atStart => exact ⟨0, Nat.zero_le _, rfl, by simp [numOf]⟩
  case round =>
    obtain ⟨k, hk, rfl, rfl⟩ := hrel
    by_cases hlt : k < n
    · obtain ⟨b, off, c', hv, hcell, hbl⟩ := HC.out k (by omega)
      simp only [Value.slice.injEq] at hv
      obtain ⟨rfl, _, rfl⟩ := hv
      have hX := numOf_take_lt bs k n hlt hn
      have HS := Lib.hid (numOf_take_succ bs k (by omega))
      clear hbl
      generalize numOf (bs.take k) = X at *
      have hkl : k < bs.length := by omega
      generalize bs[k] = x at *
      cases x with
      | true =>
        go_wp2
        go_round
        case rel => exact ⟨k + 1, by omega, by go_num, by rw [HS.out]; go_num⟩
        case measure => simp [intOf]; omega
      | false =>
        go_wp2
        go_round
        case rel => exact ⟨k + 1, by omega, by go_num, by rw [HS.out]; go_num⟩
        case measure => simp [intOf]; omega
    · obtain rfl : k = n := by omega
      by_cases hkl : k < bs.length
      · obtain ⟨b, off, c', hv, hcell, hbl⟩ := HC.out k hkl
        simp only [Value.slice.injEq] at hv
        obtain ⟨rfl, _, rfl⟩ := hv
        have hck : ¬ c = k := by omega
        clear hcell hbl
        go_wp2
        go_ret2
        exact ⟨rfl, _, ref_moved H.out hle _ ⟨fun _ => ⟨b, off, rfl, rfl⟩, fun e => by omega⟩⟩
      · obtain rfl : k = bs.length := by omega
        obtain ⟨X, hX⟩ : ∃ X, numOf (bs.take bs.length) = X := ⟨_, rfl⟩
        rw [hX]
        have HX := Lib.hid hX; clear hX
        have hnlt : ¬ bs.length < bs.length := by omega
        cases p with
        | none =>
          obtain rfl : c = 0 := HCap.out.2.2 rfl
          have hb0 : bs = [] := List.eq_nil_of_length_eq_zero (by omega)
          subst hb0
          go_wp2
          go_ret2
          exact ⟨congrArg (fun z : Nat => Ending.returned (.tuple #[.int .u64 (z : Int), .int .i64 0])) HX.out.symm, _, ref_moved H.out hle _ ⟨fun e => by simp at e, fun _ => ⟨none, 0, rfl, by simp [maxLen], fun _ => rfl⟩⟩⟩
        | some ad =>
          have hm1 := HCap.out.2.1
          by_cases hck : c = bs.length
          · subst hck
            go_wp2
            go_ret2
            exact ⟨congrArg (fun z : Nat => Ending.returned (.tuple #[.int .u64 (z : Int), .int .i64 0])) HX.out.symm, .slice (some ad) 0 0, ref_moved H.out hle _ ⟨fun e => by omega, fun _ => ⟨some ad, 0, rfl, Nat.zero_le _, fun e => by cases e⟩⟩⟩
          · go_wp2
            go_ret2
            exact ⟨congrArg (fun z : Nat => Ending.returned (.tuple #[.int .u64 (z : Int), .int .i64 0])) HX.out.symm, _, ref_moved H.out hle _ ⟨fun e => by omega, fun _ => ⟨_, c - bs.length, rfl, by omega, fun e => by cases e⟩⟩⟩
end Go.Proofs.Ytpphgmgdmdehpaa
