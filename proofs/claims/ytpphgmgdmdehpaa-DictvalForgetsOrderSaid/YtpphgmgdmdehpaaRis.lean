/- A reader as the bits that are left. -/
import Derived.Test.YtpphgmgdmdehpaaBitioD
import Derived.Test.YtpphgmgdmdehpaaCode
set_option linter.unusedVariables false
namespace Go.Proofs.Ytpphgmgdmdehpaa
open Go Go.RowKit

/-- A reader of bs that has the bits r left. -/
def RIs (p : Nat) (v : Value) (bs : List Nat) (r : List Bool) (w : World) : Prop := ReaderIn w p v (8 * bs.length - r.length) bs ∧ r = (unpack bs).drop (8 * bs.length - r.length)
theorem ris_of {p : Nat} {v : Value} {bs : List Nat} {i : Nat} {w : World} (h : ReaderIn w p v i bs) : RIs p v bs ((unpack bs).drop i) w := by
  have hle := h.le
  have e : 8 * bs.length - ((unpack bs).drop i).length = i := by rw [List.length_drop, unpack_length]; omega
  unfold RIs
  rw [e]
  exact ⟨h, rfl⟩
theorem RIs.len {p : Nat} {v : Value} {bs : List Nat} {r : List Bool} {w : World} (h : RIs p v bs r w) : r.length ≤ 8 * bs.length := by
  have := congrArg List.length h.2
  rw [List.length_drop, unpack_length] at this
  omega
theorem RIs.mods {S : Nat → Prop} {p : Nat} {v : Value} {bs : List Nat} {r : List Bool} {w w' : World} (h : RIs p v bs r w) (hm : Mods S w w') (hp : ¬ S p) (hv : ∀ k, v.ownBlock = some k → ¬ S k) : RIs p v bs r w' := ⟨h.1.mods hm hp hv, h.2⟩
theorem RIs.below {p : Nat} {v : Value} {bs : List Nat} {r : List Bool} {w w' : World} (h : RIs p v bs r w) (hb : Below w.heap.size w w') : RIs p v bs r w' := h.mods (Mods.of_below hb (fun _ => False)) (fun e => e) (fun _ _ e => e)
/-- What a read leaves. -/
def RP (p : Nat) (v : Value) (bs : List Nat) (r : List Bool) (w w' : World) : Prop := RIs p v bs r w' ∧ Mods (fun k => k = p) w w'

theorem rfield (p : Nat) (v : Value) (bs : List Nat) (r : List Bool) (n : Nat) (w : World) (h : RIs p v bs r w) (hn : n ≤ 64) :
    Calls Try.prog 56 #[.pointer (some ⟨p, 0, none⟩), .int .i64 (n : Int)] w fun e w' => e = .returned (.tuple #[.int .u64 ((field n r).x : Int), .int .i64 ((field n r).e : Int)]) ∧ RP p v bs (field n r).r w w' := by
  have hl := h.len
  by_cases hs : r.length < n
  · have hf : field n r = ⟨3, 0, r⟩ := by rw [field, if_pos hs]
    rw [hf]
    refine (rbits_eof p v _ n bs w h.1 hn (by omega)).mono ?_
    rintro e w' ⟨rfl, d, rfl⟩
    exact ⟨rfl, ⟨h.1.drewN d, h.2⟩, Mods.drewN _ _ _⟩
  · have hf : field n r = ⟨0, numOf (r.take n), r.drop n⟩ := by rw [field, if_neg hs]
    rw [hf]
    refine (rbits p v _ n bs w h.1 hn (by omega)).mono ?_
    rintro e w' ⟨rfl, hp⟩
    have he : 8 * bs.length - (r.drop n).length = 8 * bs.length - r.length + n := by rw [List.length_drop]; omega
    refine ⟨?_, ⟨by rw [he]; exact hp.rd, ?_⟩, hp.mods⟩
    · show _ = Ending.returned (.tuple #[.int .u64 ((numOf (r.take n) : Nat) : Int), .int .i64 0])
      rw [seg, ← h.2]
    · rw [he, ← List.drop_drop, ← h.2]

theorem field_lt (n : Nat) (r : List Bool) : (field n r).x < 2 ^ n := by
  rw [field]; split
  · exact Nat.two_pow_pos _
  · have := numOf_lt (r.take n)
    rw [List.length_take, Nat.min_eq_left (by omega)] at this
    exact this

theorem field_one (b : Bool) (c : List Bool) : field 1 (b :: c) = ⟨0, b.toNat, c⟩ := by cases b <;> rfl
theorem field_none : field 1 [] = ⟨3, 0, []⟩ := rfl

theorem rp_trans {p : Nat} {v : Value} {bs : List Nat} {r r' : List Bool} {a b c : World} (h : RP p v bs r a b) (k : RP p v bs r' b c) : RP p v bs r' a c := ⟨k.1, h.2.trans k.2 (fun _ _ e => e)⟩
theorem RP.below {p : Nat} {v : Value} {bs : List Nat} {r : List Bool} {a b c : World} (h : RP p v bs r a b) (k : Below b.heap.size b c) : RP p v bs r a c := ⟨h.1.below k, h.2.trans (Mods.of_below k _) (fun _ _ e => e)⟩
theorem RIs.start {p : Nat} {v : Value} {bs : List Nat} {r : List Bool} {w : World} (h : RIs p v bs r w) : RP p v bs r w w := ⟨h, Mods.refl _ _⟩

theorem rp_more {S : Nat → Prop} {p : Nat} {v : Value} {bs : List Nat} {r0 r : List Bool} {w w2 w3 : World} (h0 : RIs p v bs r0 w) (h : RP p v bs r w w2) (hm : Mods S w2 w3) (hS : ∀ k, S k → w.heap.size ≤ k) : RP p v bs r w w3 := by
  have hlt := h0.1.blk.lt
  have hM : Mods (fun k => k = p) w w3 := h.2.trans hm (fun j hj e => by have := hS j e; omega)
  refine ⟨⟨⟨?_, h0.1.rd.mods hM (fun k hk e => h0.1.ne (by rw [hk, e])), h0.1.ne, h.1.1.le, h0.1.small, h0.1.byte⟩, h.1.2⟩, hM⟩
  exact h.1.1.blk.of_same (hm.block _ h.1.1.blk.lt (fun e => by have := hS p e; omega))
end Go.Proofs.Ytpphgmgdmdehpaa
