/- Layer 1: BitioSplits, walked. -/
import Derived.Test.YtgcfgickpooaaaaAlive01
import Derived.Test.YtgcfgickpooaaaaOpen
set_option linter.unusedVariables false
namespace Go.Proofs.Ytgcfgickpooaaaa
open Go Go.RowKit

/-- Two writers that share nothing; both lie from block B on. -/
structure Two (B : Nat) (w0 w : World) (p : Nat) (v : Value) (bs : List Bool) (q : Nat) (u : Value) (cs : List Bool) : Prop where
  a : WriterIn w p v bs
  b : WriterIn w q u cs
  pq : p ≠ q
  vq : v.ownBlock ≠ some q
  up : u.ownBlock ≠ some p
  vu : ∀ k, v.ownBlock = some k → u.ownBlock ≠ some k
  hp : B ≤ p
  hq : B ≤ q
  hv : ∀ k, v.ownBlock = some k → B ≤ k
  hu : ∀ k, u.ownBlock = some k → B ≤ k
  below : Below B w0 w
theorem Two.symm {B : Nat} {w0 w : World} {p q : Nat} {v u : Value} {bs cs : List Bool} (h : Two B w0 w p v bs q u cs) : Two B w0 w q u cs p v bs :=
  ⟨h.b, h.a, Ne.symm h.pq, h.up, h.vq, fun k hk e => h.vu k e hk, h.hq, h.hp, h.hu, h.hv, h.below⟩
theorem Two.step {B : Nat} {w0 w w' : World} {p q : Nat} {v u v' : Value} {bs cs out : List Bool} (h : Two B w0 w p v bs q u cs) (hB : B ≤ w.heap.size) (hw : WriterIn w' p v' out) (hu : Upd w w' p v v') : Two B w0 w' p v' out q u cs := by
  have hql := h.b.blk.lt
  have hul := owns_lt h.b.own
  have hpl := h.a.blk.lt
  have hvq : v'.ownBlock ≠ some q := fun e => by
    rcases hu.fresh q e with e | e
    · exact h.vq e
    · omega
  have hvu : ∀ k, v'.ownBlock = some k → u.ownBlock ≠ some k := fun k hk e => by
    rcases hu.fresh k hk with e' | e'
    · exact h.vu k e' e
    · have := hul k e; omega
  refine ⟨hw, h.b.mods hu.mods (fun e => ?_) (fun k hk e => ?_), h.pq, hvq, h.up, hvu, h.hp, h.hq, hu.fresh' hB h.hv, h.hu, h.below.trans (hu.below hB h.hp h.hv)⟩
  · rcases e with e | e
    · exact h.pq e.symm
    · exact h.vq e
  · rcases e with e | e
    · exact h.up (by rw [hk, e])
    · exact h.vu k e hk
end Go.Proofs.Ytgcfgickpooaaaa
namespace Go.Proofs.Ytgcfgickpooaaaa.bitioSplits
open Go Go.RowKit

theorem two_below {B : Nat} {w0 w w' : World} {p q : Nat} {v u : Value} {bs cs : List Bool} (h : Two B w0 w p v bs q u cs) (hB : B ≤ w.heap.size) (hb : Below w.heap.size w w') : Two B w0 w' p v bs q u cs :=
  ⟨h.a.below hb, h.b.below hb, h.pq, h.vq, h.up, h.vu, h.hp, h.hq, h.hv, h.hu, h.below.trans (hb.mono hB)⟩

set_option maxHeartbeats 2000000 in
theorem walk (w : World) (c : Nat) (hc : c < 256) (x : Nat) (hx : x < 18446744073709551616) (nv : Value) (nk : Nat × Nat) (hnk : nk.1 < 256 ∧ nk.2 < 256) (hnv : nv = .agg #[.int .u8 (nk.1 : Int), .int .u8 (nk.2 : Int)]) :
    Calls Try.prog 6 #[.int .u8 (c : Int), .int .u64 (x : Int), nv] w fun e w' => e = .returned (.bool true) ∧ Below w.heap.size w w' := by
  obtain ⟨n0, n1⟩ := nk
  subst hnv
  simp only at hnk ⊢
  obtain ⟨hn0, hn1⟩ := hnk
  obtain ⟨m, hm⟩ : ∃ m, m = n0 % 65 := ⟨_, rfl⟩
  obtain ⟨i, hi⟩ : ∃ i, i = n1 % (m + 1) := ⟨_, rfl⟩
  have him : i ≤ m := by have := Nat.mod_lt n1 (show 0 < m + 1 by omega); omega
  have hm64 : m ≤ 64 := by omega
  have HM := Lib.hid hm; have HI := Lib.hid hi
  go_enter Try.func6, Try.ntmps6
  go_wp2_with fail
  rw [show ((n0 : Int) % 65) = (m : Int) from by have := HM.out; omega, show ((n1 : Int) % ((m : Int) + 1)) = (i : Int) from by have := HI.out; subst this; simp]
  have hw0 : Below w.heap.size w (w.alloc (.cells #[.int .u8 (n0 : Int), .int .u8 (n1 : Int)] 52)) := (Below.refl _ _).alloc (Nat.le_refl _) _
  clear hm hi HM HI hn0 hn1
  generalize (w.alloc (.cells #[.int .u8 (n0 : Int), .int .u8 (n1 : Int)] 52)) = w0 at *
  have Hw0 := Lib.hid hw0; clear hw0
  refine (new_writer _).mono ?_
  rintro e w1 ⟨rfl, hA1, hB1⟩
  have HA1 := Lib.hid hA1; have HB1 := Lib.hid (Hw0.out.trans (hB1.mono Hw0.out.size))
  clear hA1 hB1
  go_wp2_with fail
  refine (new_writer _).mono ?_
  rintro e w2 ⟨rfl, hA2, hB2⟩
  have H2 : Hid (Two w.heap.size w w2 w0.heap.size (.slice none 0 0) [] w1.heap.size (.slice none 0 0) []) :=
    ⟨HA1.out.below hB2, hA2, by have := HA1.out.blk.lt; omega, by simp [Value.ownBlock], by simp [Value.ownBlock], by simp [Value.ownBlock], Hw0.out.size, HB1.out.size, by simp [Value.ownBlock], by simp [Value.ownBlock], HB1.out.trans (hB2.mono HB1.out.size)⟩
  clear hA2 hB2
  go_wp2_with fail
  obtain ⟨B, hBe⟩ : ∃ B, c % 65 = B := ⟨_, rfl⟩
  have hB64 : B ≤ 64 := by omega
  rw [show (c : Int) % 65 = (B : Int) from by omega]
  have HBe := Lib.hid hBe; clear hBe
  refine (wbits _ _ _ 0 B _ H2.out.a hB64 (by simp)).mono ?_
  rintro e w3 ⟨rfl, va, hW, hU⟩
  have H3 := Lib.hid (H2.out.step H2.out.below.size hW hU)
  clear hW hU
  go_wp2_with fail
  rw [show (c : Int) % 65 = (B : Int) from by have := HBe.out; omega]
  refine (wbits _ _ _ 0 B _ H3.out.b hB64 (by simp)).mono ?_
  rintro e w4 ⟨rfl, vb, hW, hU⟩
  have H4 := Lib.hid (H3.out.symm.step H3.out.below.size hW hU).symm
  clear hW hU
  go_wp2_with fail
  refine (wbits _ _ _ x m _ H4.out.a hm64 (by simp [fieldBits_length]; omega)).mono ?_
  rintro e w5 ⟨rfl, va2, hW, hU⟩
  have H5 := Lib.hid (H4.out.step H4.out.below.size hW hU)
  clear hW hU
  go_wp2_with fail
  rw [show (x : Int) / 2 ^ i = ((x / 2 ^ i : Nat) : Int) from by simp, show (m : Int) - (i : Int) = ((m - i : Nat) : Int) from by omega]
  refine (wbits _ _ _ (x / 2 ^ i) (m - i) _ H5.out.b (by omega) (by simp [fieldBits_length]; omega)).mono ?_
  rintro e w6 ⟨rfl, vb2, hW, hU⟩
  have H6 := Lib.hid (H5.out.symm.step H5.out.below.size hW hU).symm
  clear hW hU
  go_wp2_with fail
  refine (wbits _ _ _ x i _ H6.out.b (by omega) (by simp [fieldBits_length]; omega)).mono ?_
  rintro e w7 ⟨rfl, vb3, hW, hU⟩
  rw [List.append_assoc ([] ++ fieldBits 0 B), ← fieldBits_split x m i him] at hW
  have H7 := Lib.hid (H6.out.symm.step H6.out.below.size hW hU).symm
  clear hW hU
  go_wp2_with fail
  refine (alive_any _).mono ?_
  rintro e w8 ⟨rfl, hB8⟩
  have H8 := Lib.hid (two_below H7.out H7.out.below.size hB8)
  clear hB8
  have hlen : ([] ++ fieldBits 0 B ++ fieldBits x m).length ≤ 128 := by simp [fieldBits_length]; omega
  generalize [] ++ fieldBits 0 B ++ fieldBits x m = L at *
  go_wp2_with fail
  refine (wlen _ _ _ _ H8.out.a).mono ?_
  rintro e w9 ⟨rfl, rfl⟩
  go_wp2_with fail
  refine (wlen _ _ _ _ H8.out.b).mono ?_
  rintro e w9 ⟨rfl, rfl⟩
  go_wp2_with fail
  refine (wbytes _ _ _ _ H8.out.a (by omega)).mono ?_
  rintro e w9 ⟨r, rfl, hM⟩
  have H9 := Lib.hid (two_below H8.out H8.out.below.size hM.2)
  have HM9 := Lib.hid (Rd.of_owns hM.1)
  clear hM
  go_wp2_with fail
  refine (wbytes _ _ _ _ H9.out.b (by omega)).mono ?_
  rintro e w10 ⟨r2, rfl, hM⟩
  have H10 := Lib.hid (two_below H9.out H9.out.below.size hM.2)
  have HM10 := Lib.hid (HM9.out.below hM.2)
  have HN10 := Lib.hid (Rd.of_owns hM.1)
  clear hM
  go_wp2_with fail
  refine (equal_any _ _ _ _ _ _ _ HM10.out HN10.out (pack_lt _) (pack_lt _)).mono ?_
  rintro e w11 ⟨rfl, rfl⟩
  rw [decide_eq_true rfl]
  go_wp2_with fail
  go_ret
  exact ⟨rfl, H10.out.below⟩
end Go.Proofs.Ytgcfgickpooaaaa.bitioSplits
