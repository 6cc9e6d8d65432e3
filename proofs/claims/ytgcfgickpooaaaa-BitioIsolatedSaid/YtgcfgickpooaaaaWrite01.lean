/- Layer 1: the law's helper that writes fields with a writer and with the reference. -/
import Derived.Test.YtgcfgickpooaaaaField01
import Derived.Test.YtgcfgickpooaaaaAlive01
import Derived.Test.YtgcfgickpooaaaaRef01B
namespace Go.Proofs.Ytgcfgickpooaaaa
open Go Go.RowKit

def fieldGood (a : Nat × Int) : Bool := decide (0 ≤ a.2) && decide (a.2 ≤ 64)
def fieldsBits (l : List (Nat × Int)) : List Bool := l.flatMap (fun a => if fieldGood a then fieldBits a.1 a.2.toNat else [])
theorem fieldsBits_cons (a : Nat × Int) (l : List (Nat × Int)) : fieldsBits (a :: l) = (if fieldGood a then fieldBits a.1 a.2.toNat else []) ++ fieldsBits l := by simp only [fieldsBits, List.flatMap_cons]
theorem fieldsBits_append (a b : List (Nat × Int)) : fieldsBits (a ++ b) = fieldsBits a ++ fieldsBits b := by simp only [fieldsBits, List.flatMap_append]
theorem fieldsBits_length (l : List (Nat × Int)) : (fieldsBits l).length ≤ 64 * l.length := by
  induction l with
  | nil => simp [fieldsBits]
  | cons a l ih =>
    rw [fieldsBits_cons, List.length_append, List.length_cons]
    split
    · rename_i h
      simp [fieldGood] at h
      rw [fieldBits_length]; omega
    · simp; omega
theorem fieldsBits_take_succ (l : List (Nat × Int)) (j : Nat) (hj : j < l.length) : fieldsBits (l.take (j + 1)) = fieldsBits (l.take j) ++ (if fieldGood l[j] then fieldBits l[j].1 l[j].2.toNat else []) := by
  rw [List.take_add_one, List.getElem?_eq_getElem hj, fieldsBits_append]; simp only [Option.toList, fieldsBits_cons]; rw [show fieldsBits [] = [] from rfl, List.append_nil]
theorem rd_field_cell {w : World} {v : Value} {l : List (Nat × Int)} (h : Rd w 2 v l.length (l.flatMap fieldCells)) (j : Nat) (hj : j < l.length) :
    ∃ b off c, v = .slice (some ⟨b, off, none⟩) l.length c ∧ w.cell? ⟨b, off + j * 2, none⟩ = some (.int .u64 (l[j].1 : Nat)) ∧ w.cell? ⟨b, off + j * 2 + 1, none⟩ = some (.int .i64 l[j].2) ∧ b < w.heap.size := by
  have hlen := flatMap_len fieldCells l (sz := 2) (fun a _ => rfl)
  have hg : ∀ (l : List (Nat × Int)) (j : Nat) (hj : j < l.length), (l.flatMap fieldCells)[j * 2]? = some (.int .u64 (l[j].1 : Nat)) ∧ (l.flatMap fieldCells)[j * 2 + 1]? = some (.int .i64 l[j].2) := by
    intro l
    induction l with
    | nil => intro j hj; simp at hj
    | cons a l ih =>
      intro j hj
      rw [List.flatMap_cons]
      cases j with
      | zero => exact ⟨rfl, rfl⟩
      | succ j =>
        have := ih j (by simpa using hj)
        simp only [fieldCells, List.getElem_cons_succ]
        rw [show (j + 1) * 2 = j * 2 + 2 from by omega]
        exact this
  obtain ⟨b, off, c, hv, _, _, hc⟩ := h.at (fun e => by rw [e] at hlen; simp at hlen; omega)
  have h0 := hc _ _ (hg l j hj).1
  exact ⟨b, off, c, hv, h0, (by have := hc _ _ (hg l j hj).2; rwa [← Nat.add_assoc] at this), World.block_lt_of_cell? w _ h0⟩

structure Wrote (w : World) (p : Nat) (v : Value) (bs out : List Bool) (w' : World) (v' bv : Value) : Prop where
  wr : WriterIn w' p v' (bs ++ out)
  upd : Upd w w' p v v'
  own : BitsIn w' bv out
  new : ∀ k, bv.ownBlock = some k → w.heap.size ≤ k ∧ v'.ownBlock ≠ some k

theorem Wrote.below {w : World} {p : Nat} {v : Value} {bs out : List Bool} {w1 w2 : World} {v' bv : Value} (h : Wrote w p v bs out w1 v' bv) (hb : Below w1.heap.size w1 w2) : Wrote w p v bs out w2 v' bv :=
  ⟨h.wr.below hb, ⟨h.upd.mods.trans (Mods.of_below hb (fun _ => False)) (fun _ _ e => e.elim), h.upd.fresh⟩, (Mods.of_below hb (fun _ => False)).owns h.own (fun _ _ e => e), h.new⟩

/-- One more field: the writer's step, then the reference's. -/
theorem Wrote.step {w : World} {p : Nat} {v : Value} {bs out more : List Bool} {w1 w2 w3 : World} {v1 v2 b1 b2 : Value} (h : Wrote w p v bs out w1 v1 b1) (hp : p < w.heap.size) (hw : WriterIn w2 p v2 ((bs ++ out) ++ more)) (hu : Upd w1 w2 p v1 v2)
    (hr : RefWrote b1 (out ++ more) w2 b2 w3) : Wrote w p v bs (out ++ more) w3 v2 b2 := by
  have hpb : ∀ k, b1.ownBlock = some k → k ≠ p ∧ v2.ownBlock ≠ some k := fun k hk => by
    have h1 := h.new k hk
    refine ⟨by omega, fun e => ?_⟩
    rcases hu.fresh k e with e | e
    · exact h1.2 e
    · have := owns_lt h.own k hk; omega
  have hm : Mods (fun k => b1.ownBlock = some k) w2 w3 := hr.mods
  refine ⟨?_, ⟨?_, ?_⟩, hr.own, fun k hk => ?_⟩
  · rw [← List.append_assoc]
    exact hw.mods hm (fun e => (hpb p e).1 rfl) (fun k hk e => (hpb k e).2 hk)
  · refine (h.upd.trans hu).mods.trans (T := fun k => b1.ownBlock = some k) hm (fun k hk e => ?_)
    have := (h.new k e).1
    omega
  · exact (h.upd.trans hu).fresh
  · have hsz : w.heap.size ≤ w2.heap.size := (h.upd.trans hu).mods.size
    rcases hr.fresh k hk with e | e
    · exact ⟨(h.new k e).1, (hpb k e).2⟩
    · exact ⟨by omega, fun e' => by have := owns_lt hw.own k e'; omega⟩

set_option maxHeartbeats 1000000 in
theorem write_any (p : Nat) (v lv : Value) (bs : List Bool) (l : List (Nat × Int)) (w : World) (h : WriterIn w p v bs) (hl : Rd w 2 lv l.length (l.flatMap fieldCells)) (hsep : l ≠ [] → ∀ k, lv.ownBlock = some k → k ≠ p ∧ v.ownBlock ≠ some k) (ok : ∀ a ∈ l, fieldOk a) (hb : bs.length + 64 * l.length ≤ 17592186044416) :
    Calls Try.prog 11 #[.pointer (some ⟨p, 0, none⟩), lv] w fun e w' => ∃ v' bv, e = .returned (.tuple #[bv, .int .i64 1]) ∧ Wrote w p v bs (fieldsBits l) w' v' bv := by
  have HC := Lib.hid (rd_field_cell hl)
  obtain ⟨q, c, hv⟩ := hl.shape
  subst hv
  have hpl := h.blk.lt
  have H := Lib.hid h
  clear hl h
  go_enter Try.func11, Try.ntmps11
  go_wp2
  go_loopw [6, 12] (fun bv i wr => ∃ (j : Nat) (v' : Value), j ≤ l.length ∧ i = .int .i64 j ∧ Wrote w p v bs (fieldsBits (l.take j)) wr v' bv) (fun _ i _ => l.length - (intOf i).toNat)
  case atStart => exact ⟨0, v, Nat.zero_le _, rfl, by simpa [fieldsBits] using H.out, Upd.refl _ _ _, World.ownsRow_nil _ _ _ _, by simp [Value.ownBlock]⟩
  case round =>
    obtain ⟨j, v', hj, rfl, hW⟩ := hrel
    by_cases hlt : j < l.length
    · obtain ⟨b, off, c', hv, hc0, hc1, hbl⟩ := HC.out _ hlt
      simp only [Value.slice.injEq] at hv
      obtain ⟨rfl, _, rfl⟩ := hv
      have hlen := fieldsBits_length (l.take j)
      rw [List.length_take] at hlen
      have hok := ok l[j] (List.getElem_mem _)
      have HS := Lib.hid (fieldsBits_take_succ l j hlt)
      have HW := Lib.hid hW
      have hnb : b ≠ p ∧ v.ownBlock ≠ some b := hsep (fun e => by rw [e] at hlt; simp at hlt) b rfl
      have k0 : wr.cell? ⟨b, off + j * 2, none⟩ = some (.int .u64 (l[j].1 : Nat)) := hW.upd.mods.cell hc0 (fun e => by rcases e with e | e; exact hnb.1 e; exact hnb.2 e)
      have k1 : wr.cell? ⟨b, off + j * 2 + 1, none⟩ = some (.int .i64 l[j].2) := hW.upd.mods.cell hc1 (fun e => by rcases e with e | e; exact hnb.1 e; exact hnb.2 e)
      clear hW hc0 hc1 hbl hnb
      unfold fieldOk at hok
      unfold fieldGood at HS
      generalize l[j] = a at *
      obtain ⟨x, n⟩ := a
      simp only at k0 k1 hok HS
      have hbl : Below wr.heap.size wr (wr.alloc (.cells #[.int .u64 (x : Int), .int .i64 n] 51)) := (Below.refl _ _).alloc (Nat.le_refl _) _
      have HA := Lib.hid (HW.out.below hbl)
      have hlt' := HW.out.wr.blk.lt
      have hown' := owns_lt HW.out.wr.own
      have HO := Lib.hid hown'; clear hown' hbl
      go_wp2_with fail
      by_cases hbad : n < 0 ∨ 64 < n
      · have HG : Hid (fieldsBits (l.take (j + 1)) = fieldsBits (l.take j)) := by
          show _ = _
          rw [HS.out, if_neg (by simp; omega), List.append_nil]
        refine (wbits_bad _ _ _ _ hbad).mono ?_
        rintro e w1 ⟨rfl, rfl⟩
        rcases hbad with hbad | hbad
        · go_wp2
          go_roundw
          case rel => exact ⟨j + 1, v', by omega, by go_num, by rw [HG.out]; exact HA.out⟩
          case measure => simp [intOf]; omega
        · have hn0 : ¬ n < 0 := by omega
          go_wp2
          go_roundw
          case rel => exact ⟨j + 1, v', by omega, by go_num, by rw [HG.out]; exact HA.out⟩
          case measure => simp [intOf]; omega
      · obtain ⟨m, rfl⟩ := Int.eq_ofNat_of_zero_le (show 0 ≤ n by omega)
        have HG : Hid (fieldsBits (l.take (j + 1)) = fieldsBits (l.take j) ++ fieldBits x m) := by
          show _ = _
          rw [HS.out, if_pos (by simp; omega)]; simp
        clear HS
        generalize fieldsBits (l.take j) = out at *
        have hn0 : ¬ (m : Int) < 0 := by omega
        have hn1 : ¬ 64 < (m : Int) := by omega
        refine (wbits p v' (bs ++ out) x m _ HA.out.wr (by omega) (by rw [List.length_append]; omega)).mono ?_
        rintro e w1 ⟨rfl, v2, hW2, hU2⟩
        have hblk := hU2.mods.blk (Blk.new wr #[.int .u64 (x : Int), .int .i64 (m : Int)] 51) (fun e => by
          rcases e with e | e
          · omega
          · have := HO.out _ e; omega)
        have c0 : w1.cell? ⟨wr.heap.size, 0, none⟩ = some (.int .u64 x) := by rw [hblk.cell]; rfl
        have c1 : w1.cell? ⟨wr.heap.size, 1, none⟩ = some (.int .i64 (m : Int)) := by rw [hblk.cell]; rfl
        have hbv : BitsIn w1 u6 out := hU2.mods.owns HA.out.own (fun k hk e => by
          have h1 := HA.out.new k hk
          rcases e with e | e
          · omega
          · exact h1.2 e)
        have HB := Lib.hid hbv; have HW2 := Lib.hid hW2; have HU2 := Lib.hid hU2
        clear hbv hW2 hU2 hblk
        go_wp2_with (go_at_call 25; refine (ref_write _ _ x m _ HB.out (by omega) (by omega) (by omega)).mono ?_; rintro e w3 ⟨b2, rfl, hR⟩)
        go_roundw
        case rel => exact ⟨j + 1, v2, by omega, by go_num, by rw [HG.out]; exact HA.out.step hpl HW2.out HU2.out hR⟩
        case measure => simp [intOf]; omega
    · obtain rfl : j = l.length := by omega
      go_wp2
      go_ret2
      rw [List.take_length] at hW
      exact ⟨v', _, rfl, hW⟩
end Go.Proofs.Ytgcfgickpooaaaa
