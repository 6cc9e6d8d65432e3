/- BitioA, BitioB, BitioC, BitioD, TimesSg, Struct, TimesFo, Range, Keep, TimesCh, TimesLn, TimesQ, PutIn, in one text. -/
import Derived.Test.YtgpmoimmpbkgfaaGreatDoorMrg3
import Derived.Test.YtgpmoimmpbkgfaaGreatDoorMrg1
import Derived.Test.YtgpmoimmpbkgfaaGreatDoorMrg4
import Derived.Deep.MidRow
import Derived.RangeFuncNested
import Derived.RangeFuncBound
import Derived.RangeFuncCalls
import Derived.RangeFuncLeaves
import Derived.RangeFuncBox
import Derived.OwnWalkIn
import Derived.Shelf.Abstract
import Derived.TacticsInMore
import Derived.LoopNIn
import Derived.LoopIn
import Derived.Test.YtgpmoimmpbkgfaaGreatDoorMrg2

section
/- Layer 1: what the functions of package bitio do, each by a contract. -/
set_option maxRecDepth 20000
namespace Go.Proofs.YtgpmoimmpbkgfaaGreatDoor
open Go Go.RowKit


/-- A writer at block p: its bits, its slice of bytes v. -/
structure WriterIn (w : World) (p : Nat) (v : Value) (bits : List Bool) : Prop where
  blk : Blk w p [.int .i64 bits.length, v]
  own : w.ownsRow 0 5 1 v (pack bits).length (u8s (pack bits))
  ne : v.ownBlock ≠ some p

/-- What a call on a writer may change. -/
structure Upd (w w' : World) (p : Nat) (v v' : Value) : Prop where
  mods : Mods (fun k => k = p ∨ v.ownBlock = some k) w w'
  fresh : Fresh w.heap.size v v'
theorem Upd.refl (w : World) (p : Nat) (v : Value) : Upd w w p v v := ⟨Mods.refl _ _, Fresh.refl _ _⟩
theorem Upd.trans {a b c : World} {p : Nat} {u v x : Value} (h : Upd a b p u v) (k : Upd b c p v x) : Upd a c p u x :=
  ⟨h.mods.trans k.mods (fun j hj e => by
    rcases e with e | e
    · exact Or.inl e
    · rcases h.fresh j e with e | e
      · exact Or.inr e
      · omega), h.fresh.trans k.fresh h.mods.size⟩

theorem shift_any (n : Int) (w : World) (h0 : 0 ≤ n) (h1 : n ≤ 9223372036854775807) : Calls Tryz.prog 94 #[.int .i64 n] w fun e w' => e = .returned (.int .i64 (7 - n % 8)) ∧ w' = w := by
  go_enter Tryz.func94, Tryz.ntmps94
  go_wp2
  go_ret
  exact ⟨rfl, rfl⟩

def PushPost (p : Nat) (v : Value) (bits : List Bool) (b : Bool) (w w' : World) : Prop := ∃ v', WriterIn w' p v' (bits ++ [b]) ∧ Upd w w' p v v'

theorem pushed_old {w : World} {p g m cap : Nat} {bits : List Bool} (b : Bool) (h : WriterIn w p (.slice (some ⟨g, 0, none⟩) m cap) bits) (hr : bits.length % 8 ≠ 0) (y : Int) (hy : y = ((byteOf (bits ++ [b]) (bits.length / 8) : Nat) : Int)) :
    PushPost p (.slice (some ⟨g, 0, none⟩) m cap) bits b w (((w.setCell ⟨g, bits.length / 8, none⟩ (.int .u8 y)).setCell ⟨p, 0, none⟩ (.int .i64 (bits.length + 1))).drew) := by
  subst hy
  have hgp : g ≠ p := fun e => h.ne (by simp [Value.ownBlock, e])
  have hm : m = (pack bits).length := by
    rcases owns_cases h.own with ⟨e, _⟩ | ⟨g', c', e, _⟩
    · simp at e
    · simp at e; exact e.2.1
  subst hm
  have hst := (h.own.stored (bits.length / 8) (.int .u8 ((byteOf (bits ++ [b]) (bits.length / 8) : Nat) : Int))).1
  rw [u8s_set, ← pack_push_old bits b hr] at hst
  have hl : (pack (bits ++ [b])).length = (pack bits).length := by simp [pack_length]; omega
  refine ⟨.slice (some ⟨g, 0, none⟩) (pack bits).length cap, ⟨?_, ?_, h.ne⟩, ⟨?_, Fresh.refl _ _⟩⟩
  · have := (h.blk.set_other (a := ⟨g, bits.length / 8, none⟩) (Ne.symm hgp) (.int .u8 ((byteOf (bits ++ [b]) (bits.length / 8) : Nat) : Int))).set 0 (.int .i64 (bits.length + 1))
    exact Blk.drew (by simpa using this)
  · rw [hl]
    exact (Mods.set (fun k => k = p) _ ⟨p, 0, none⟩ _ (fun _ => rfl)).owns hst (fun k hk e => h.ne (by rw [← e]; exact hk))
  · exact ((Mods.set _ _ _ _ (fun _ => Or.inr rfl)).trans (Mods.set (fun k => k = p ∨ k = g) _ ⟨p, 0, none⟩ _ (fun _ => Or.inl rfl)) (fun j _ e => by
      rcases e with e | e
      · exact Or.inl e
      · exact Or.inr (by simp [Value.ownBlock, e]))).trans (Mods.drew (fun _ => False) _) (fun _ _ e => e.elim)

set_option maxHeartbeats 400000 in
theorem push_old (p g m cap : Nat) (bs : List Bool) (b : Bool) (c : Int) (w : World) (h : WriterIn w p (.slice (some ⟨g, 0, none⟩) m cap) bs) (hb : bs.length < 1125899906842624) (hr : bs.length % 8 ≠ 0)
    (hc : c = (b.toNat : Int)) : Calls Tryz.prog 57 #[.pointer (some ⟨p, 0, none⟩), .int .u8 c] w fun e w' => e = .returned (.tuple #[]) ∧ PushPost p (.slice (some ⟨g, 0, none⟩) m cap) bs b w w' := by
  have hgp : g ≠ p := fun e => h.ne (by simp [Value.ownBlock, e])
  have hm : m = (bs.length + 7) / 8 := by
    rcases owns_cases h.own with ⟨e, _⟩ | ⟨g', c', e, _⟩
    · simp at e
    · simp at e; rw [e.2.1, pack_length]
  have h0 : w.cell? ⟨p, 0, none⟩ = some (.int .i64 bs.length) := by rw [h.blk.cell]; rfl
  have h1 : w.cell? ⟨p, 1, none⟩ = some (.slice (some ⟨g, 0, none⟩) m cap) := by rw [h.blk.cell]; rfl
  have f0 : w.frozen? ⟨p, 0, none⟩ = false := h.blk.free 0
  have hg : w.cell? ⟨g, bs.length / 8, none⟩ = some (.int .u8 ((byteOf bs (bs.length / 8) : Nat) : Int)) := by
    have hown := h.own
    rw [pack_length, ← hm] at hown
    rw [hown.cellAt _ (by omega), u8s, List.getElem?_map, pack_get _ _ (by omega)]; rfl
  have fg : w.frozen? ⟨g, bs.length / 8, none⟩ = false := by
    have hown := h.own
    rw [pack_length, ← hm] at hown
    exact hown.frozenAt _
  have hor := or_bit bs b ((byteOf bs (bs.length / 8) : Nat) : Int) (c * 2 ^ (7 - bs.length % 8) % 256) rfl (by
    have hb1 : b.toNat ≤ 1 := by cases b <;> simp
    have hp : 2 ^ (7 - bs.length % 8) ≤ 2 ^ 7 := Nat.pow_le_pow_right (by omega) (by omega)
    have hx : b.toNat * 2 ^ (7 - bs.length % 8) < 256 := by
      have := Nat.mul_le_mul hb1 hp
      omega
    have e : (b.toNat : Int) * 2 ^ (7 - bs.length % 8) = ((b.toNat * 2 ^ (7 - bs.length % 8) : Nat) : Int) := by simp
    rw [hc, e]
    omega)
  have Hor := Lib.hid hor; clear hor
  have PP := fun y hy => pushed_old (w := w) b h hr y hy
  have HP := Lib.hid PP; clear PP
  clear h
  generalize hY : ((byteOf (bs ++ [b]) (bs.length / 8) : Nat) : Int) = Y at *
  generalize hK : ((byteOf bs (bs.length / 8) : Nat) : Int) = K at *
  clear hY hK
  generalize bs.length = n at *
  have hne : ((n : Int) % 8 == 0) = false := by rw [beq_eq_false_iff_ne]; omega
  have hlt : (n : Int) / 8 < (m : Int) := by omega
  have hge : 0 ≤ (n : Int) / 8 := by omega
  have hw1 : IntKind.i64.wrap ((n : Int) / 8) = (n : Int) / 8 := IntWalk.i64_in _ (by omega)
  have hs0 : (0 : Int) ≤ 7 - (n : Int) % 8 := by omega
  have hs1 : 7 - (n : Int) % 8 < 8 := by omega
  have hd : ((n : Int) / 8).toNat = n / 8 := by omega
  clear hm hc
  go_enter Tryz.func57, Tryz.ntmps57
  go_wp2_with fail
  go_still_tail 22, (by kernel_rfl)
  still_call (shift_any _ _ (by omega) (by omega))
  repeat still_step
  refine wpStill_nil ?_
  change wpList _ _ _ _ _ w.drew
  go_wp2
  go_end0
  exact ⟨rfl, HP.out _ Hor.out⟩

theorem pushed_new {w w1 : World} {p g m cap : Nat} {v : Value} {bits : List Bool} (b : Bool) (h : WriterIn w p v bits) (hr : bits.length % 8 = 0) (hb : Blk w1 p [.int .i64 bits.length, v])
    (ho : w1.ownsRow 0 5 1 (.slice (some ⟨g, 0, none⟩) m cap) ((pack bits).length + 1) (u8s (pack bits) ++ [.int .u8 0])) (hm : Mods (fun k => v.ownBlock = some k) w w1)
    (hf : Fresh w.heap.size v (.slice (some ⟨g, 0, none⟩) m cap)) (y : Int) (hy : y = ((b.toNat * 128 : Nat) : Int)) :
    PushPost p v bits b w ((((w1.setCell ⟨p, 1, none⟩ (.slice (some ⟨g, 0, none⟩) m cap)).setCell ⟨g, bits.length / 8, none⟩ (.int .u8 y)).setCell ⟨p, 0, none⟩ (.int .i64 (bits.length + 1))).drew) := by
  subst hy
  have hgp : g ≠ p := fun e => by
    rcases hf g rfl with h1 | h1
    · exact h.ne (by rw [h1, e])
    · have := h.blk.lt; omega
  have hm' : m = (pack bits).length + 1 := by
    rcases owns_cases ho with ⟨e, _⟩ | ⟨g', c', e, _⟩
    · simp at e
    · simp at e; exact e.2.1
  subst hm'
  have hq : (pack bits).length = bits.length / 8 := by rw [pack_length]; omega
  have e1 : u8s (pack bits) ++ [.int .u8 0] = u8s (pack bits ++ [0]) := by rw [u8s_append]; rfl
  have e2 : (pack bits ++ [0]).set (bits.length / 8) (b.toNat * 128) = pack (bits ++ [b]) := by
    rw [pack_push_new bits b hr, List.set_append_right _ _ (by omega), hq]; simp
  have ho1 := (Mods.set (fun k => k = p) w1 ⟨p, 1, none⟩ (.slice (some ⟨g, 0, none⟩) ((pack bits).length + 1) cap) (fun _ => rfl)).owns ho (fun k hk e => by simp [Value.ownBlock] at hk; omega)
  have hst := (ho1.stored (bits.length / 8) (.int .u8 ((b.toNat * 128 : Nat) : Int))).1
  rw [e1, u8s_set, e2] at hst
  have hl : (pack (bits ++ [b])).length = (pack bits).length + 1 := by simp [pack_length]; omega
  have hb1 := (((hb.set 1 (.slice (some ⟨g, 0, none⟩) ((pack bits).length + 1) cap)).set_other (a := ⟨g, bits.length / 8, none⟩) (Ne.symm hgp) (.int .u8 ((b.toNat * 128 : Nat) : Int))).set 0 (.int .i64 (bits.length + 1)))
  refine ⟨.slice (some ⟨g, 0, none⟩) ((pack bits).length + 1) cap, ⟨?_, ?_, ?_⟩, ⟨?_, hf⟩⟩
  · exact Blk.drew (by simpa using hb1)
  · rw [hl]
    exact (Mods.set (fun k => k = p) _ ⟨p, 0, none⟩ _ (fun _ => rfl)).owns hst (fun k hk e => by simp [Value.ownBlock] at hk; omega)
  · simp [Value.ownBlock]; exact hgp
  · have hgs : ∀ j, j < w.heap.size → j = g → (j = p ∨ v.ownBlock = some j) := fun j hj e => by
      rcases hf g rfl with h1 | h1
      · exact Or.inr (by rw [e]; exact h1)
      · omega
    exact ((((hm.mono (fun j _ e => Or.inr e)).trans (Mods.set (fun k => k = p) _ ⟨p, 1, none⟩ _ (fun _ => rfl)) (fun j _ e => Or.inl e)).trans (Mods.set (fun k => k = g) _ ⟨g, _, none⟩ _ (fun _ => rfl)) (fun j hj e => hgs j hj e)).trans
      (Mods.set (fun k => k = p) _ ⟨p, 0, none⟩ _ (fun _ => rfl)) (fun j _ e => Or.inl e)).trans (Mods.drew (fun _ => False) _) (fun _ _ e => e.elim)

set_option maxHeartbeats 1000000 in
theorem push_new (p : Nat) (v : Value) (bs : List Bool) (b : Bool) (c : Int) (w : World) (h : WriterIn w p v bs) (hb : bs.length < 1125899906842624) (hr : bs.length % 8 = 0)
    (hc : c = (b.toNat : Int)) : Calls Tryz.prog 57 #[.pointer (some ⟨p, 0, none⟩), .int .u8 c] w fun e w' => e = .returned (.tuple #[]) ∧ PushPost p v bs b w w' := by
  have h0 : w.cell? ⟨p, 0, none⟩ = some (.int .i64 bs.length) := by rw [h.blk.cell]; rfl
  have h1 : w.cell? ⟨p, 1, none⟩ = some v := by rw [h.blk.cell]; rfl
  have hpl := h.blk.lt
  obtain ⟨i0, hi, hz0, hz1, hz2⟩ := info_parts Tryz.infoU8
  have hmL : (pack bs).length + 1 ≤ maxLen ∧ ((pack bs).length + 1) * 1 ≤ 140737488355328 := by rw [pack_length]; unfold maxLen; omega
  have H := Lib.hid h; clear h
  have hne : ((bs.length : Int) % 8 == 0) = true := by rw [beq_iff_eq]; omega
  have hnn : (bs.length : Int) ≤ 1125899906842624 := by omega
  go_enter Tryz.func57, Tryz.ntmps57
  go_wp2_with (at_builtin; refine wpList_app _ rfl _ _ 34 rfl 5 i0 (.int .u8 0) 1 1 Tryz.underlying34 hi hz0 hz1 hz2 rfl (by decide) _ _ _ rfl (H.out.own.alloc _) ⟨w.heap.size, 0, none⟩ 1 1 [.int .u8 0] rfl rfl ?c1 ?c2 ?c3 ?c4 ?_)
  case c1 => exact news_one _ _ _
  case c2 => intro u hu; simp at hu; subst hu; rfl
  case c3 => exact hmL.1
  case c4 => exact hmL.2
  intro v' w1 hown hmods hfresh
  have hex : ∃ g cap, v' = .slice (some ⟨g, 0, none⟩) ((pack bs).length + 1) cap := by
    rcases owns_cases hown with ⟨_, e, _⟩ | ⟨g, cap, e, _⟩
    · omega
    · exact ⟨g, cap, e⟩
  obtain ⟨g, cap, hv⟩ := hex
  rw [hv]
  rw [hv] at hown hfresh
  clear hv
  have hb1 : Blk w1 p [.int .i64 bs.length, v] := hmods.blk (H.out.blk.alloc _) H.out.ne
  have hmods' : Mods (fun k => v.ownBlock = some k) w w1 := (Mods.alloc _ w _).trans hmods (fun _ _ e => e)
  have hfr : Fresh w.heap.size v (.slice (some ⟨g, 0, none⟩) ((pack bs).length + 1) cap) := fun k hk => by
    rcases hfresh k hk with e | e
    · exact Or.inl e
    · exact Or.inr (by omega)
  have PP := fun y hy => pushed_new (w := w) b H.out hr hb1 hown hmods' hfr y hy
  have hgp : g ≠ p := fun e => by
    rcases hfr g rfl with h1 | h1
    · exact H.out.ne (by rw [h1, e])
    · omega
  have hq : (pack bs).length = bs.length / 8 := by rw [pack_length]; omega
  have j1 : w1.cell? ⟨p, 1, none⟩ = some v := by rw [hb1.cell]; rfl
  have jf : w1.frozen? ⟨p, 1, none⟩ = false := hb1.free 1
  have hb2 := hb1.set 1 (.slice (some ⟨g, 0, none⟩) ((pack bs).length + 1) cap)
  have ho2 := (Mods.set (fun k => k = p) w1 ⟨p, 1, none⟩ (.slice (some ⟨g, 0, none⟩) ((pack bs).length + 1) cap) (fun _ => rfl)).owns hown (fun k hk e => by simp [Value.ownBlock] at hk; omega)
  have k0 : (w1.setCell ⟨p, 1, none⟩ (.slice (some ⟨g, 0, none⟩) ((pack bs).length + 1) cap)).cell? ⟨p, 0, none⟩ = some (.int .i64 bs.length) := by rw [hb2.cell]; rfl
  have k1 : (w1.setCell ⟨p, 1, none⟩ (.slice (some ⟨g, 0, none⟩) ((pack bs).length + 1) cap)).cell? ⟨p, 1, none⟩ = some (.slice (some ⟨g, 0, none⟩) ((pack bs).length + 1) cap) := by rw [hb2.cell]; rfl
  have k2 : (w1.setCell ⟨p, 1, none⟩ (.slice (some ⟨g, 0, none⟩) ((pack bs).length + 1) cap)).cell? ⟨g, bs.length / 8, none⟩ = some (.int .u8 0) := by
    rw [ho2.cellAt _ (by omega), List.getElem?_append_right (by rw [u8s_length]; omega), u8s_length, hq, Nat.sub_self]; rfl
  have f0 : (w1.setCell ⟨p, 1, none⟩ (.slice (some ⟨g, 0, none⟩) ((pack bs).length + 1) cap)).frozen? ⟨p, 0, none⟩ = false := hb2.free 0
  have f2 : (w1.setCell ⟨p, 1, none⟩ (.slice (some ⟨g, 0, none⟩) ((pack bs).length + 1) cap)).frozen? ⟨g, bs.length / 8, none⟩ = false := ho2.frozenAt _
  have hbit : bits BinOp.or IntKind.u8 0 ((b.toNat : Int) * 128 % 256) = ((b.toNat * 128 : Nat) : Int) := by cases b <;> decide +kernel
  have HB := Lib.hid hbit; clear hbit
  have HP := Lib.hid PP; clear PP
  have hmq : bs.length / 8 < (pack bs).length + 1 := by omega
  have Hq := Lib.hid hq; clear hq
  have K0 := Lib.hid k0; have K1 := Lib.hid k1; have K2 := Lib.hid k2; have F0 := Lib.hid f0; have F2 := Lib.hid f2
  clear hown hmods hfresh hmods' hfr hb1 h0 h1 hb2 ho2 k0 k1 k2 f0 f2
  generalize bs.length = n at *
  generalize (pack bs).length + 1 = m at *
  have hlt : (n : Int) / 8 < (m : Int) := by omega
  have hge : 0 ≤ (n : Int) / 8 := by omega
  have hw1 : IntKind.i64.wrap ((n : Int) / 8) = (n : Int) / 8 := IntWalk.i64_in _ (by omega)
  have hd : ((n : Int) / 8).toNat = n / 8 := by omega
  go_wp2_with fail
  generalize w1.setCell ⟨p, 1, none⟩ (.slice (some ⟨g, 0, none⟩) m cap) = w2 at K0 K1 K2 F0 F2 HP ⊢
  have k0 := K0.out; have k1 := K1.out; have k2 := K2.out; have f0 := F0.out; have f2 := F2.out
  clear K0 K1 K2 F0 F2
  go_still_tail 22, (by kernel_rfl)
  still_call (shift_any _ _ (by omega) (by omega))
  repeat still_step
  refine wpStill_nil ?_
  change wpList _ _ _ _ _ w2.drew
  go_wp2
  go_end0
  exact ⟨rfl, HP.out _ HB.out⟩

theorem push_any (p : Nat) (v : Value) (bs : List Bool) (b : Bool) (c : Int) (w : World) (h : WriterIn w p v bs) (hb : bs.length < 1125899906842624)
    (hc : c = (b.toNat : Int)) : Calls Tryz.prog 57 #[.pointer (some ⟨p, 0, none⟩), .int .u8 c] w fun e w' => e = .returned (.tuple #[]) ∧ PushPost p v bs b w w' := by
  by_cases hr : bs.length % 8 = 0
  · exact push_new p v bs b c w h hb hr hc
  · rcases owns_cases h.own with ⟨_, e, _⟩ | ⟨g, cap, e, _⟩
    · rw [pack_length] at e; omega
    · subst e; exact push_old p g _ cap bs b c w h hb hr hc

end Go.Proofs.YtgpmoimmpbkgfaaGreatDoor

end

section
/- Layer 1: the writer's calls. -/
set_option maxRecDepth 20000
namespace Go.Proofs.YtgpmoimmpbkgfaaGreatDoor
open Go Go.RowKit

def BitsPost (p : Nat) (v : Value) (out : List Bool) (w w' : World) : Prop := ∃ v', WriterIn w' p v' out ∧ Upd w w' p v v'

theorem bit_val (x k : Nat) : bits BinOp.and IntKind.u8 ((x : Int) / 2 ^ k % 256) 1 = ((x.testBit k).toNat : Int) := by
  have e : (x : Int) / 2 ^ k % 256 = ((x / 2 ^ k % 256 : Nat) : Int) := by simp
  rw [e]
  have := bits_mask .u8 8 (by decide) wraps_u8 1 (by decide) ((x / 2 ^ k % 256 : Nat) : Int) (Int.natCast_nonneg _) (by have : x / 2 ^ k % 256 < 256 := Nat.mod_lt _ (by omega); simp; omega)
  simp only [Int.reduceSub, Int.pow_one] at this
  rw [this]
  rw [testBit_toNat]
  omega

set_option maxHeartbeats 400000 in
theorem wbits (p : Nat) (v : Value) (bs : List Bool) (x n : Nat) (w : World) (h : WriterIn w p v bs) (hn : n ≤ 64) (hb : bs.length + 64 ≤ 1125899906842624) :
    Calls Tryz.prog 28 #[.pointer (some ⟨p, 0, none⟩), .int .u64 x, .int .i64 n] w fun e w' => e = .returned (.int .i64 0) ∧ BitsPost p v (bs ++ fieldBits x n) w w' := by
  go_enter Tryz.func28, Tryz.ntmps28
  go_wp2
  go_loopw [17] (fun c wr => ∃ (k : Nat) (v' : Value), k ≤ n ∧ c = .int .i64 k ∧ WriterIn wr p v' (bs ++ (fieldBits x n).take k) ∧ Upd w wr p v v') (fun c _ => n - (intOf c).toNat)
  case atStart => exact ⟨0, v, Nat.zero_le _, rfl, by simpa using h, Upd.refl _ _ _⟩
  case round =>
    obtain ⟨k, v', hk, rfl, hW, hU⟩ := hrel
    by_cases hlt : k < n
    · go_wp2_with fail
      refine (push_any p v' _ (x.testBit (n - 1 - k)) _ _ hW (by rw [List.length_append, List.length_take, fieldBits_length]; omega) (bit_val x (n - 1 - k))).mono ?_
      rintro e w' ⟨rfl, v2, hW2, hU2⟩
      have HR : Hid (BitsPost p v (bs ++ (fieldBits x n).take (k + 1)) w w') := ⟨v2, by rw [fieldBits_take_succ x n k hlt, ← List.append_assoc]; exact hW2, hU.trans hU2⟩
      clear hW hU hW2 hU2
      go_wp2
      go_roundw
      case rel =>
        obtain ⟨v2, hW2, hU2⟩ := HR.out
        exact ⟨k + 1, v2, by omega, by go_num, hW2, hU2⟩
      case measure => simp [intOf]; omega
    · go_wp2
      go_ret
      obtain rfl : k = n := by omega
      exact ⟨rfl, v', by rwa [List.take_of_length_le (by rw [fieldBits_length]; omega)] at hW, hU⟩

theorem wbits_nil (x n : Int) (w : World) : Calls Tryz.prog 28 #[.pointer none, .int .u64 x, .int .i64 n] w fun e w' => e = .returned (.int .i64 1) ∧ w = w' := by
  go_enter Tryz.func28, Tryz.ntmps28
  go_wp2
  go_ret
  exact ⟨rfl, rfl⟩

theorem wbits_bad (p : Nat) (x n : Int) (w : World) (h : n < 0 ∨ 64 < n) : Calls Tryz.prog 28 #[.pointer (some ⟨p, 0, none⟩), .int .u64 x, .int .i64 n] w fun e w' => e = .returned (.int .i64 2) ∧ w = w' := by
  rcases h with h | h
  · go_enter Tryz.func28, Tryz.ntmps28
    go_wp2
    go_ret
    exact ⟨rfl, rfl⟩
  · have h' : ¬ n < 0 := by omega
    go_enter Tryz.func28, Tryz.ntmps28
    go_wp2
    go_ret
    exact ⟨rfl, rfl⟩

theorem new_writer (w : World) : Calls Tryz.prog 27 #[] w fun e w' => e = .returned (.pointer (some ⟨w.heap.size, 0, none⟩)) ∧ WriterIn w' w.heap.size (.slice none 0 0) [] ∧ Below w.heap.size w w' := by
  go_enter Tryz.func27, Tryz.ntmps27
  go_wp2
  go_ret
  exact ⟨rfl, ⟨Blk.new _ _ _, World.ownsRow_nil _ _ _ _, by simp [Value.ownBlock]⟩, (Below.refl _ _).alloc (Nat.le_refl _) _⟩

theorem WriterIn.mods {S : Nat → Prop} {w w' : World} {p : Nat} {v : Value} {bs : List Bool} (h : WriterIn w p v bs) (hm : Mods S w w') (hp : ¬ S p) (hv : ∀ k, v.ownBlock = some k → ¬ S k) : WriterIn w' p v bs :=
  ⟨hm.blk h.blk hp, hm.owns h.own hv, h.ne⟩
theorem WriterIn.below {w w' : World} {p : Nat} {v : Value} {bs : List Bool} (h : WriterIn w p v bs) (hb : Below w.heap.size w w') : WriterIn w' p v bs := h.mods (Mods.of_below hb (fun _ => False)) (fun e => e) (fun _ _ e => e)

set_option maxHeartbeats 400000 in
theorem clone_any (v : Value) (n : Nat) (vs : List Value) (w : World) (h : Rd w 1 v n vs) (h1 : ∀ u ∈ vs, u.oneCell' = true) (hn : n ≤ 140737488355328) :
    Calls Tryz.prog 60 #[v] w fun e w' => ∃ r, e = .returned r ∧ Made w w' 5 1 r n vs := by
  obtain ⟨i0, hi, hz0, hz1, hz2⟩ := info_parts Tryz.infoU8
  obtain ⟨p, c, rfl, hl, hc1, hc2, hnil, hcell⟩ := h
  have hmax : n ≤ maxLen := by unfold maxLen; omega
  cases p with
  | none =>
    obtain ⟨rfl, rfl⟩ := hnil rfl
    obtain rfl : vs = [] := List.eq_nil_of_length_eq_zero (by simpa using hl)
    go_enter Tryz.func60, Tryz.ntmps60
    go_wp2
    go_ret
    exact ⟨_, rfl, World.ownsRow_nil _ _ _ _, Below.refl _ _⟩
  | some ad =>
    have HC := Lib.hid hcell; clear hcell hnil
    go_enter Tryz.func60, Tryz.ntmps60
    go_wp2_with (at_builtin; refine wpList_append_own _ rfl _ _ 34 rfl w.heap.size 5 i0 (.int .u8 0) 1 1 Tryz.underlying34 hi hz0 hz1 hz2 rfl (by decide) _ _ _ rfl (World.ownsRow_nil _ _ _ _) ad n c vs rfl ?c1 ?c2 ?c3 ?c4 ?c5 ?c6 ?_)
    case c1 => exact hl
    case c2 => exact HC.out ad rfl
    case c3 => exact h1
    case c4 => omega
    case c5 => omega
    case c6 => exact Nat.le_refl _
    intro v' w1 hown hgrow hx
    clear hx
    have HO := Lib.hid hown; have HG := Lib.hid hgrow; clear hown hgrow
    go_wp2
    go_ret
    exact ⟨_, rfl, HO.out, (Below.refl _ _).grown HG.out (Nat.le_refl _) (fun k e => by cases e)⟩

theorem wbytes_nil (w : World) : Calls Tryz.prog 30 #[.pointer none] w fun e w' => e = .returned (.slice none 0 0) ∧ w = w' := by
  go_enter Tryz.func30, Tryz.ntmps30
  go_wp2
  go_ret
  exact ⟨rfl, rfl⟩

theorem wbytes (p : Nat) (v : Value) (bs : List Bool) (w : World) (h : WriterIn w p v bs) (hb : bs.length ≤ 1125899906842624) : Calls Tryz.prog 30 #[.pointer (some ⟨p, 0, none⟩)] w
    fun e w' => ∃ r, e = .returned r ∧ Made w w' 5 1 r (pack bs).length (u8s (pack bs)) := by
  have h1 : w.cell? ⟨p, 1, none⟩ = some v := by rw [h.blk.cell]; rfl
  have hr : Rd w 1 v (pack bs).length (u8s (pack bs)) := Rd.of_owns h.own
  have hlen : (pack bs).length ≤ 140737488355328 := by rw [pack_length]; omega
  clear h
  go_enter Tryz.func30, Tryz.ntmps30
  go_wp2_with (go_at_call 60; refine (clone_any _ _ _ _ hr (u8s_oneCell _) hlen).mono ?_; rintro e w' ⟨r, rfl, hm⟩)
  go_ret
  exact ⟨_, rfl, hm⟩

end Go.Proofs.YtgpmoimmpbkgfaaGreatDoor

end

section
/- Layer 1: the reader's calls. -/
set_option maxRecDepth 20000
namespace Go.Proofs.YtgpmoimmpbkgfaaGreatDoor
open Go Go.RowKit

/-- A reader at block p of the bytes bs, at bit number i; its slice of bytes v. -/
structure ReaderIn (w : World) (p : Nat) (v : Value) (i : Nat) (bs : List Nat) : Prop where
  blk : Blk w p [.int .i64 i, v]
  rd : Rd w 1 v bs.length (u8s bs)
  ne : v.ownBlock ≠ some p
  le : i ≤ 8 * bs.length
  small : bs.length ≤ 140737488355328
  byte : ∀ x ∈ bs, x < 256

theorem ReaderIn.mods {S : Nat → Prop} {w w' : World} {p : Nat} {v : Value} {i : Nat} {bs : List Nat} (h : ReaderIn w p v i bs) (hm : Mods S w w') (hp : ¬ S p) (hv : ∀ k, v.ownBlock = some k → ¬ S k) : ReaderIn w' p v i bs :=
  ⟨hm.blk h.blk hp, h.rd.mods hm hv, h.ne, h.le, h.small, h.byte⟩

set_option maxHeartbeats 400000 in
theorem new_reader (b : Value) (bs : List Nat) (w : World) (h : Rd w 1 b bs.length (u8s bs)) (hn : bs.length ≤ 140737488355328) (h8 : ∀ x ∈ bs, x < 256) :
    Calls Tryz.prog 34 #[b] w fun e w' => ∃ p v, e = .returned (.pointer (some ⟨p, 0, none⟩)) ∧ ReaderIn w' p v 0 bs ∧ Below w.heap.size w w' ∧ w.heap.size ≤ p ∧ (∀ k, v.ownBlock = some k → w.heap.size ≤ k ∧ k < w'.heap.size) := by
  go_enter Tryz.func34, Tryz.ntmps34
  go_wp2_with (go_at_call 60; refine (clone_any _ _ _ _ h (u8s_oneCell _) hn).mono ?_; rintro e w' ⟨r, rfl, hm⟩; obtain ⟨rp, rc, hsh⟩ := (Rd.of_owns hm.1).shape; rw [hsh]; rw [hsh] at hm; clear hsh)
  go_ret
  have hlt := owns_lt hm.1
  refine ⟨w'.heap.size, _, rfl, ⟨Blk.new _ _ _, ?_, ?_, Nat.zero_le _, hn, h8⟩, hm.2.alloc hm.2.size _, hm.2.size, fun k hk => ⟨(hm.1.lt k hk).1, by have := (hm.1.lt k hk).2; simp; omega⟩⟩
  · exact (Rd.of_owns hm.1).below ((Below.refl _ _).alloc (Nat.le_refl _) _)
  · intro e; have := hlt _ e; omega

theorem left_nil (w : World) : Calls Tryz.prog 66 #[.pointer none] w fun e w' => e = .returned (.int .i64 0) ∧ ∃ n, w' = w.drewN n := by
  go_enter Tryz.func66, Tryz.ntmps66
  go_wp2
  go_ret
  exact ⟨rfl, 0, rfl⟩

theorem left_any (p : Nat) (v : Value) (i : Nat) (bs : List Nat) (w : World) (h : ReaderIn w p v i bs) :
    Calls Tryz.prog 66 #[.pointer (some ⟨p, 0, none⟩)] w fun e w' => e = .returned (.int .i64 (8 * bs.length - i)) ∧ ∃ n, w' = w.drewN n := by
  have h0 : w.cell? ⟨p, 0, none⟩ = some (.int .i64 i) := by rw [h.blk.cell]; rfl
  have h1 : w.cell? ⟨p, 1, none⟩ = some v := by rw [h.blk.cell]; rfl
  have hle := h.le; have hsm := h.small
  obtain ⟨a, c, rfl, _⟩ := h.rd
  clear h
  generalize bs.length = n at *
  have hw1 : IntKind.i64.wrap (8 * (n : Int)) = 8 * n := IntWalk.i64_in _ (by omega)
  have hw2 : IntKind.i64.wrap (8 * (n : Int) - i) = 8 * n - i := IntWalk.i64_in _ (by omega)
  go_enter Tryz.func66, Tryz.ntmps66
  go_wp2
  go_quiet (fail)
  go_wp2
  go_ret
  exact ⟨rfl, nq, rfl⟩

theorem peek_any (p : Nat) (v : Value) (i j : Nat) (bs : List Nat) (w : World) (h : ReaderIn w p v i bs) (hj : i + j < 8 * bs.length) :
    Calls Tryz.prog 67 #[.pointer (some ⟨p, 0, none⟩), .int .i64 j] w fun e w' => e = .returned (.int .u8 (bitAt bs (i + j)).toNat) ∧ ∃ n, w' = w.drewN n := by
  have h0 : w.cell? ⟨p, 0, none⟩ = some (.int .i64 i) := by rw [h.blk.cell]; rfl
  have h1 : w.cell? ⟨p, 1, none⟩ = some v := by rw [h.blk.cell]; rfl
  have hsm := h.small
  have hq : (i + j) / 8 < bs.length := by omega
  obtain ⟨b, off, c, rfl, hc1, hc2, hcell⟩ := h.rd.at (fun e => by have := congrArg List.length e; simp [u8s_length] at this; subst this; simp at hq)
  have hcq' := hcell ((i + j) / 8) _ (u8s_get bs _ hq)
  have hb : bs[(i + j) / 8] < 256 := h.byte _ (List.getElem_mem _)
  have hbit : bits BinOp.and IntKind.u8 ((bs[(i + j) / 8] : Int) / 2 ^ (7 - (i + j) % 8)) 1 = ((bitAt bs (i + j)).toNat : Int) := by
    rw [bit_of_byte _ _ hb]
    simp only [bitAt, List.getD, List.getElem?_eq_getElem hq]; rfl
  have HB := Lib.hid hbit
  clear h hcell hbit
  generalize bs[(i + j) / 8] = x at *
  generalize hY : ((bitAt bs (i + j)).toNat : Int) = Y at *
  clear hY
  generalize bs.length = n at *
  have hlt : ((i : Int) + j) / 8 < (n : Int) := by omega
  have hge : 0 ≤ ((i : Int) + j) / 8 := by omega
  have hd : (((i : Int) + j) / 8).toNat = (i + j) / 8 := by omega
  have hw1 : IntKind.i64.wrap (((i : Int) + j) / 8) = ((i : Int) + j) / 8 := IntWalk.i64_in _ (by omega)
  have hs0 : (0 : Int) ≤ 7 - ((i : Int) + j) % 8 := by omega
  have hs1 : 7 - ((i : Int) + j) % 8 < 8 := by omega
  go_enter Tryz.func67, Tryz.ntmps67
  go_wp2
  go_quiet ((go_at_call 94; exact Calls.quiet_of_same (shift_any _ _ (by omega) (by omega))))
  go_wp2
  go_ret
  exact ⟨congrArg (fun b => Ending.returned (.int .u8 b)) HB.out, nq, rfl⟩

end Go.Proofs.YtgpmoimmpbkgfaaGreatDoor

end

section
/- Layer 1: reading bits, and the end. -/
set_option maxRecDepth 20000
namespace Go.Proofs.YtgpmoimmpbkgfaaGreatDoor
open Go Go.RowKit

theorem rbits_nil (n : Int) (w : World) : Calls Tryz.prog 63 #[.pointer none, .int .i64 n] w fun e w' => e = .returned (.tuple #[.int .u64 0, .int .i64 1]) ∧ w = w' := by
  go_enter Tryz.func63, Tryz.ntmps63
  go_wp2
  go_ret2
  exact ⟨rfl, rfl⟩

theorem rbits_bad (p : Nat) (n : Int) (w : World) (h : n < 0 ∨ 64 < n) : Calls Tryz.prog 63 #[.pointer (some ⟨p, 0, none⟩), .int .i64 n] w fun e w' => e = .returned (.tuple #[.int .u64 0, .int .i64 2]) ∧ w = w' := by
  rcases h with h | h
  · go_enter Tryz.func63, Tryz.ntmps63
    go_wp2
    go_ret2
    exact ⟨rfl, rfl⟩
  · have h' : ¬ n < 0 := by omega
    go_enter Tryz.func63, Tryz.ntmps63
    go_wp2
    go_ret2
    exact ⟨rfl, rfl⟩

theorem ReaderIn.drewN {w : World} {p : Nat} {v : Value} {i : Nat} {bs : List Nat} (h : ReaderIn w p v i bs) (d : Nat) : ReaderIn (w.drewN d) p v i bs := h.mods (Mods.drewN (fun _ => False) w d) (fun h => h) (fun _ _ h => h)

set_option maxHeartbeats 400000 in
theorem rbits_eof (p : Nat) (v : Value) (i n : Nat) (bs : List Nat) (w : World) (h : ReaderIn w p v i bs) (hn : n ≤ 64) (hlt : 8 * bs.length < i + n) :
    Calls Tryz.prog 63 #[.pointer (some ⟨p, 0, none⟩), .int .i64 n] w fun e w' => e = .returned (.tuple #[.int .u64 0, .int .i64 3]) ∧ ∃ d, w' = w.drewN d := by
  have hle := h.le
  have hl : (8 * (bs.length : Int) - i) < (n : Int) := by omega
  have H := Lib.hid h; clear h
  go_enter Tryz.func63, Tryz.ntmps63
  go_wp2_with (go_at_call 66; refine (left_any _ _ _ _ _ H.out).mono ?_; rintro e w' ⟨rfl, d, rfl⟩)
  go_ret2
  exact ⟨rfl, d, rfl⟩

theorem numOf_seg_lt (bs : List Nat) (i k n : Nat) (hk : k < n) (hn : n ≤ 64) (h : i + n ≤ 8 * bs.length) : numOf (seg bs i k) < 9223372036854775808 := by
  have := numOf_lt (seg bs i k)
  rw [seg_length bs i k (by omega)] at this
  have h2 : 2 ^ k ≤ 2 ^ 63 := Nat.pow_le_pow_right (by omega) (by omega)
  omega

structure RBitsPost (p : Nat) (v : Value) (i : Nat) (bs : List Nat) (w w' : World) : Prop where
  rd : ReaderIn w' p v i bs
  mods : Mods (fun k => k = p) w w'

theorem reader_moved {p : Nat} {v : Value} {i n : Nat} {bs : List Nat} {w : World} (h : ReaderIn w p v i bs) (hle : i + n ≤ 8 * bs.length) (d : Nat) :
    RBitsPost p v (i + n) bs w ((w.setCell ⟨p, 0, none⟩ (.int .i64 ((i : Int) + n))).drewN d) := by
  have hm : Mods (fun k => k = p) w (w.setCell ⟨p, 0, none⟩ (.int .i64 ((i : Int) + n))) := Mods.set _ _ _ _ (fun _ => rfl)
  have hb := h.blk.set 0 (.int .i64 ((i : Int) + n))
  have h1 : ReaderIn (w.setCell ⟨p, 0, none⟩ (.int .i64 ((i : Int) + n))) p v (i + n) bs := ⟨by simpa using hb, h.rd.mods hm (fun k hk e => h.ne (by rw [hk, e])), h.ne, hle, h.small, h.byte⟩
  exact ⟨h1.drewN d, hm.trans (Mods.drewN (fun _ => False) _ d) (fun _ _ e => e.elim)⟩

set_option maxHeartbeats 400000 in
theorem rbits (p : Nat) (v : Value) (i n : Nat) (bs : List Nat) (w : World) (h : ReaderIn w p v i bs) (hn : n ≤ 64) (hle : i + n ≤ 8 * bs.length) :
    Calls Tryz.prog 63 #[.pointer (some ⟨p, 0, none⟩), .int .i64 n] w fun e w' => e = .returned (.tuple #[.int .u64 (numOf (seg bs i n)), .int .i64 0]) ∧ RBitsPost p v (i + n) bs w w' := by
  have hl : ¬ (8 * (bs.length : Int) - i) < (n : Int) := by omega
  have hsm := h.small
  have H := Lib.hid h; clear h
  go_enter Tryz.func63, Tryz.ntmps63
  go_wp2_with (go_at_call 66; refine (left_any _ _ _ _ _ H.out).mono ?_; rintro e w' ⟨rfl, d, rfl⟩)
  go_loopw [6, 21] (fun x c wr => ∃ (k d : Nat), k ≤ n ∧ c = .int .i64 k ∧ x = .int .u64 (numOf (seg bs i k)) ∧ wr = w.drewN d) (fun _ c _ => n - (intOf c).toNat)
  case atStart => exact ⟨0, _, Nat.zero_le _, rfl, by rw [seg_zero]; rfl, rfl⟩
  case round =>
    obtain ⟨k, d, hk, rfl, rfl, rfl⟩ := hrel
    by_cases hlt : k < n
    · have hb := numOf_seg_lt bs i k n hlt hn hle
      have HS : Hid (numOf (seg bs i (k + 1)) = numOf (seg bs i k) * 2 + (bitAt bs (i + k)).toNat) := by rw [seg_succ bs i k (by omega)]; exact numOf_push _ _
      have hb1 : (bitAt bs (i + k)).toNat ≤ 1 := by cases bitAt bs (i + k) <;> simp
      have HO := Lib.hid (u64_or_bit (numOf (seg bs i k)) (bitAt bs (i + k)).toNat hb1 (by omega))
      generalize hX : numOf (seg bs i k) = X at *
      clear hX
      have hb0 : (0 : Int) ≤ X := by omega
      go_wp2_with (go_at_call 67; refine (peek_any _ _ _ k _ _ (H.out.drewN d) (by omega)).mono ?_; rintro e w' ⟨rfl, d', rfl⟩)
      go_roundw
      case rel =>
        exact ⟨k + 1, _, by omega, by go_num, by rw [HS.out, ← HO.out], rfl⟩
      case measure => simp [intOf]; omega
    · obtain rfl : k = n := by omega
      have H2 := H.out
      have h0 : w.cell? ⟨p, 0, none⟩ = some (.int .i64 i) := by rw [H2.blk.cell]; rfl
      have f0 : w.frozen? ⟨p, 0, none⟩ = false := H2.blk.free 0
      have hlen := H2.le
      have H3 := Lib.hid H2
      clear H2
      go_wp2
      go_ret2
      exact ⟨rfl, reader_moved H3.out hle d⟩

/-- What End answers. -/
def endOf (bs : List Nat) (i : Nat) : Int := if 8 ≤ 8 * bs.length - i then 4 else if ((unpack bs).drop i).all (fun b => !b) then 0 else 4

theorem rend_nil (w : World) : Calls Tryz.prog 37 #[.pointer none] w fun e w' => e = .returned (.int .i64 1) ∧ w = w' := by
  go_enter Tryz.func37, Tryz.ntmps37
  go_wp2
  go_ret
  exact ⟨rfl, rfl⟩

theorem endOf_zero {bs : List Nat} {i : Nat} (hle : i ≤ 8 * bs.length) (h8 : ¬ 8 ≤ 8 * bs.length - i) (h : ∀ j, j < 8 * bs.length - i → bitAt bs (i + j) = false) : endOf bs i = 0 := by
  rw [endOf, if_neg h8, if_pos]
  rw [List.all_eq_true]
  intro b hb
  obtain ⟨j, hj, rfl⟩ := List.mem_iff_getElem.1 hb
  have hj' : j < 8 * bs.length - i := by simpa [unpack_length] using hj
  have := unpack_get bs (i + j) (by omega)
  rw [h j hj'] at this
  rw [List.getElem_drop]
  rw [List.getElem?_eq_getElem (by rw [unpack_length]; omega)] at this
  simpa using this
theorem endOf_four {bs : List Nat} {i j : Nat} (hle : i ≤ 8 * bs.length) (h8 : ¬ 8 ≤ 8 * bs.length - i) (hj : j < 8 * bs.length - i) (h : bitAt bs (i + j) = true) : endOf bs i = 4 := by
  rw [endOf, if_neg h8, if_neg]
  rw [List.all_eq_true]
  intro hall
  have := unpack_get bs (i + j) (by omega)
  rw [h] at this
  have hm : true ∈ (unpack bs).drop i := by
    rw [List.mem_iff_getElem?]
    exact ⟨j, by rw [List.getElem?_drop]; exact this⟩
  simpa using hall true hm

set_option maxHeartbeats 400000 in
theorem rend (p : Nat) (v : Value) (i : Nat) (bs : List Nat) (w : World) (h : ReaderIn w p v i bs) :
    Calls Tryz.prog 37 #[.pointer (some ⟨p, 0, none⟩)] w fun e w' => e = .returned (.int .i64 (endOf bs i)) ∧ ∃ d, w' = w.drewN d := by
  have hle := h.le
  have hsm := h.small
  have H := Lib.hid h; clear h
  by_cases h8 : 8 ≤ 8 * bs.length - i
  · have hl : (8 : Int) ≤ 8 * (bs.length : Int) - i := by omega
    have HE : Hid (endOf bs i = 4) := by show endOf bs i = 4; rw [endOf, if_pos h8]
    go_enter Tryz.func37, Tryz.ntmps37
    go_wp2_with (go_at_call 66; refine (left_any _ _ _ _ _ H.out).mono ?_; rintro e w' ⟨rfl, d, rfl⟩)
    go_ret
    exact ⟨ret_int HE.out.symm, d, rfl⟩
  · have hl : ¬ (8 : Int) ≤ 8 * (bs.length : Int) - i := by omega
    go_enter Tryz.func37, Tryz.ntmps37
    go_wp2_with (go_at_call 66; refine (left_any _ _ _ _ _ H.out).mono ?_; rintro e w' ⟨rfl, d, rfl⟩)
    go_loopw [12] (fun c wr => ∃ (k d : Nat), k ≤ 8 * bs.length - i ∧ c = .int .i64 k ∧ Hid (∀ j, j < k → bitAt bs (i + j) = false) ∧ wr = w.drewN d) (fun c _ => 8 * bs.length - i - (intOf c).toNat)
    case atStart => exact ⟨0, _, Nat.zero_le _, rfl, fun j hj => by omega, rfl⟩
    case round =>
      obtain ⟨k, d, hk, rfl, hall, rfl⟩ := hrel
      by_cases hlt : k < 8 * bs.length - i
      · have hlt' : (k : Int) < 8 * (bs.length : Int) - i := by omega
        cases hbit : bitAt bs (i + k) with
        | true =>
          have HB := Lib.hid hbit; clear hbit
          have hz : (((bitAt bs (i + k)).toNat : Int) != 0) = true := by rw [HB.out]; decide
          go_wp2_with (go_at_call 67; refine (peek_any _ _ _ k _ _ (H.out.drewN d) (by omega)).mono ?_; rintro e w' ⟨rfl, d', rfl⟩)
          go_ret
          exact ⟨ret_int (endOf_four hle h8 hlt HB.out).symm, _, rfl⟩
        | false =>
          have HB := Lib.hid hbit; clear hbit
          have hz : (((bitAt bs (i + k)).toNat : Int) != 0) = false := by rw [HB.out]; decide
          go_wp2_with (go_at_call 67; refine (peek_any _ _ _ k _ _ (H.out.drewN d) (by omega)).mono ?_; rintro e w' ⟨rfl, d', rfl⟩)
          go_roundw
          case rel =>
            exact ⟨k + 1, _, by omega, by go_num, fun j hj => if e : j = k then e ▸ HB.out else hall.out j (by omega), rfl⟩
          case measure => simp [intOf]; omega
      · have hge : ¬ (k : Int) < 8 * (bs.length : Int) - i := by omega
        obtain rfl : k = 8 * bs.length - i := by omega
        go_wp2
        go_ret
        exact ⟨ret_int (endOf_zero hle h8 hall.out).symm, d, rfl⟩

end Go.Proofs.YtgpmoimmpbkgfaaGreatDoor

end

section
/- Layer 5: the number whose two's complement is the lowest bits of a word, and the forms that are possible, as the program takes them. -/
set_option linter.unusedVariables false
namespace Go.Proofs.YtgpmoimmpbkgfaaGreatDoor
open Go Go.RowKit

theorem signed_0 (u : Nat) (hu : u < 18446744073709551616) (w : World) :
    Calls Tryz.prog 97 #[.int .u64 (u : Int), .int .i64 0] w fun e w' => e = .returned (.int .i64 (signT (u % 2 ^ 0) 0)) ∧ w = w' := by
  have HE : Hid (wrap64 (IntKind.u64.wrap ((u : Int) * 18446744073709551616)) / 18446744073709551616 = signT (u % 2 ^ 0) 0) := by
    show _ = _
    simp only [signT, IntKind.wrap_u64, w64_eq]
    omega
  go_enter Tryz.func97, Tryz.ntmps97
  go_wp2_with fail
  go_ret
  exact ⟨by rw [← HE.out]; rfl, rfl⟩
theorem signed_7 (u : Nat) (hu : u < 18446744073709551616) (w : World) :
    Calls Tryz.prog 97 #[.int .u64 (u : Int), .int .i64 7] w fun e w' => e = .returned (.int .i64 (signT (u % 2 ^ 7) 7)) ∧ w = w' := by
  have HE : Hid (wrap64 (IntKind.u64.wrap ((u : Int) * 144115188075855872)) / 144115188075855872 = signT (u % 2 ^ 7) 7) := by
    show _ = _
    simp only [signT, IntKind.wrap_u64, w64_eq]
    omega
  go_enter Tryz.func97, Tryz.ntmps97
  go_wp2_with fail
  go_ret
  exact ⟨by rw [← HE.out]; rfl, rfl⟩
theorem signed_12 (u : Nat) (hu : u < 18446744073709551616) (w : World) :
    Calls Tryz.prog 97 #[.int .u64 (u : Int), .int .i64 12] w fun e w' => e = .returned (.int .i64 (signT (u % 2 ^ 12) 12)) ∧ w = w' := by
  have HE : Hid (wrap64 (IntKind.u64.wrap ((u : Int) * 4503599627370496)) / 4503599627370496 = signT (u % 2 ^ 12) 12) := by
    show _ = _
    simp only [signT, IntKind.wrap_u64, w64_eq]
    omega
  go_enter Tryz.func97, Tryz.ntmps97
  go_wp2_with fail
  go_ret
  exact ⟨by rw [← HE.out]; rfl, rfl⟩
theorem signed_32 (u : Nat) (hu : u < 18446744073709551616) (w : World) :
    Calls Tryz.prog 97 #[.int .u64 (u : Int), .int .i64 32] w fun e w' => e = .returned (.int .i64 (signT (u % 2 ^ 32) 32)) ∧ w = w' := by
  have HE : Hid (wrap64 (IntKind.u64.wrap ((u : Int) * 4294967296)) / 4294967296 = signT (u % 2 ^ 32) 32) := by
    show _ = _
    simp only [signT, IntKind.wrap_u64, w64_eq]
    omega
  go_enter Tryz.func97, Tryz.ntmps97
  go_wp2_with fail
  go_ret
  exact ⟨by rw [← HE.out]; rfl, rfl⟩
theorem signed_64 (u : Nat) (hu : u < 18446744073709551616) (w : World) :
    Calls Tryz.prog 97 #[.int .u64 (u : Int), .int .i64 64] w fun e w' => e = .returned (.int .i64 (signT (u % 2 ^ 64) 64)) ∧ w = w' := by
  have HE : Hid (wrap64 (u : Int) = signT (u % 2 ^ 64) 64) := by
    show _ = _
    simp only [signT, w64_eq]
    omega
  go_enter Tryz.func97, Tryz.ntmps97
  go_wp2_with fail
  go_ret
  exact ⟨by rw [← HE.out]; rfl, rfl⟩
theorem signed_any (u k : Nat) (hk : k ≤ 4) (hu : u < 18446744073709551616) (w : World) :
    Calls Tryz.prog 97 #[.int .u64 (u : Int), .int .i64 (widthT k : Int)] w fun e w' => e = .returned (.int .i64 (signT (u % 2 ^ widthT k) (widthT k))) ∧ w = w' := by
  match k, hk with
  | 0, _ => exact signed_0 u hu w
  | 1, _ => exact signed_7 u hu w
  | 2, _ => exact signed_12 u hu w
  | 3, _ => exact signed_32 u hu w
  | 4, _ => exact signed_64 u hu w

/-- A form as a value: its mark, the bits of the mark, the bits of the number. -/
def markT : Nat → Nat
  | 0 => 0
  | 1 => 2
  | 2 => 6
  | 3 => 14
  | _ => 15
def markLenT : Nat → Nat
  | 0 => 1
  | 1 => 2
  | 2 => 3
  | _ => 4
def formCells (k : Nat) : List Value := [.int .u64 (markT k : Int), .int .i64 (markLenT k : Int), .int .i64 (widthT k : Int)]
def formV (k : Nat) : Value := .agg (formCells k).toArray
theorem mark_bits {k : Nat} (hk : k ≤ 4) : fieldBits (markT k) (markLenT k) = headT k := by
  match k, hk with
  | 0, _ => rfl
  | 1, _ => rfl
  | 2, _ => rfl
  | 3, _ => rfl
  | 4, _ => rfl
theorem markLen_le (k : Nat) : markLenT k ≤ 4 := by unfold markLenT; split <;> omega

/-- A number is its own sign in a form exactly if its form is no later one. -/
theorem fits_iff {x : Int} {k : Nat} (hk : k ≤ 3) : (signT (ofI x % 2 ^ widthT k) (widthT k) = x) ↔ formT x ≤ k := by
  match k, hk with
  | 0, _ =>
    simp only [widthT, signT, ofI, formT]
    repeat' split
    all_goals omega
  | 1, _ =>
    simp only [widthT, signT, ofI, formT]
    repeat' split
    all_goals omega
  | 2, _ =>
    simp only [widthT, signT, ofI, formT]
    repeat' split
    all_goals omega
  | 3, _ =>
    simp only [widthT, signT, ofI, formT]
    repeat' split
    all_goals omega

theorem possible_any (x : Int) (k : Nat) (hk : k ≤ 3) (w : World) :
    Calls Tryz.prog 96 #[formV k, .int .i64 x] w fun e w' => e = .returned (.bool (decide (formT x ≤ k))) ∧ Below w.heap.size w w' := by
  have HX : Hid (signT (ofI x % 2 ^ widthT k) (widthT k) = x ↔ formT x ≤ k) := fits_iff hk
  have HS := fun w => Lib.hid (signed_any (ofI x) k (by omega) (ofI_lt x) w)
  have hwr := wrap_ofI x
  have HC : Hid (formV k = .agg (formCells k).toArray) := rfl
  go_enter Tryz.func96, Tryz.ntmps96
  go_wp2_with (refine wpList_boxA rfl 104 (.tmp 0) rfl (formCells k) rfl ?_)
  intro w1 hb hB hs
  have HB := Lib.hid hB
  have c2 : w1.cell? ⟨w.heap.size, 2, none⟩ = some (.int .i64 (widthT k : Int)) := by rw [hb.cell]; rfl
  clear hb hB hs
  go_wp2_with fail
  refine (HS w1).out.mono ?_
  rintro e w2 ⟨rfl, rfl⟩
  generalize signT (ofI x % 2 ^ widthT k) (widthT k) = y at *
  go_wp2_with fail
  go_ret
  refine ⟨ret_bool ?_, HB.out⟩
  by_cases h : y = x
  · have := HX.out.1 h
    simp [h, this]
  · have : ¬ formT x ≤ k := fun e => h (HX.out.2 e)
    simp [h, this]
end Go.Proofs.YtgpmoimmpbkgfaaGreatDoor

end

section
/- Structs of numbers as values: a variable that holds one, loads, stores, results. No program in sight. -/
namespace Go.Proofs.YtgpmoimmpbkgfaaGreatDoor
open Go Go.RowKit

/-- A struct type t of n cells, whose zero value is made of zs. -/
structure Str (P : Program) (t : TypeId) (n : Nat) (zs : List Value) : Prop where
  ht : ∃ d, P.underlying t = some d ∧ manyCells d = true
  hi : ∃ i, P.info? t = some i ∧ i.zero = some (.agg zs.toArray) ∧ i.size = n
  hz : zs.length = n
theorem Str.mk' {P : Program} {t : TypeId} {n : Nat} {zs : List Value} {d : TypeDesc} (ht : P.underlying t = some d) (hd : manyCells d = true) (hi : (P.info? t).map (fun i => (i.zero, i.size)) = some (some (.agg zs.toArray), n)) (hz : zs.length = n) : Str P t n zs := by
  obtain ⟨i, h1, h2⟩ := Option.map_eq_some_iff.1 hi
  simp only [Prod.mk.injEq] at h2
  exact ⟨⟨d, ht, hd⟩, ⟨i, h1, h2.1, h2.2⟩, hz⟩

theorem Blk.rangeAt {w : World} {g : Nat} {cs : List Value} (h : Blk w g cs) : w.rangeAt g 0 cs := fun j v hv => by rw [Nat.zero_add, h.cell]; simpa using hv

/-- A stretch that is left in one way alone. -/
theorem wp_normal {P : Program} {c : Code} {Q : Exit → Act → World → Prop} {a : Act} {w : World} (h : c.wp P (fun e a w => e = .normal ∧ Q .normal a w) a w) : c.wp P Q a w := wp_mono h (fun _ _ _ h => h.1 ▸ h.2)

/-- The facts of a variable of three cells that a walk wants before it stores into it. -/
theorem Blk.three {w : World} {g : Nat} {a b c : Value} (h : Blk w g [a, b, c]) : (w.cell? ⟨g, 0, none⟩ = some a ∧ w.cell? ⟨g, 1, none⟩ = some b ∧ w.cell? ⟨g, 2, none⟩ = some c) ∧ (w.frozen? ⟨g, 0, none⟩ = false ∧ w.frozen? ⟨g, 1, none⟩ = false ∧ w.frozen? ⟨g, 2, none⟩ = false) :=
  ⟨⟨by rw [h.cell]; rfl, by rw [h.cell]; rfl, by rw [h.cell]; rfl⟩, h.free 0, h.free 1, h.free 2⟩
theorem Blk.set3 {w : World} {g : Nat} {a b c : Value} (h : Blk w g [a, b, c]) (x y z : Value) : Blk (((w.setCell ⟨g, 0, none⟩ x).setCell ⟨g, 1, none⟩ y).setCell ⟨g, 2, none⟩ z) g [x, y, z] := by
  simpa using ((h.set 0 x).set 1 y).set 2 z
theorem mods_set3 (w : World) (g : Nat) (x y z : Value) : Mods (fun k => k = g) w (((w.setCell ⟨g, 0, none⟩ x).setCell ⟨g, 1, none⟩ y).setCell ⟨g, 2, none⟩ z) :=
  ((Mods.set (fun k => k = g) w ⟨g, 0, none⟩ x (fun _ => rfl)).trans (Mods.set (fun k => k = g) _ ⟨g, 1, none⟩ y (fun _ => rfl)) (fun _ _ e => e)).trans (Mods.set (fun k => k = g) _ ⟨g, 2, none⟩ z (fun _ => rfl)) (fun _ _ e => e)

section
variable {P : Program} {ops : Array Oper} {rest : List Oper} {o : Oper} {a : Act} {w : World} {Q : Exit → Act → World → Prop} {t : TypeId} {n : Nat} {zs : List Value}

/-- A new variable that holds the zero value. -/
theorem wpList_allocS (hA : Str P t n zs) (hg : o.guard = none) (ho : o.op = .alloc t)
    (h : ∀ w', Blk w' w.heap.size zs → Below w.heap.size w w' → w'.heap.size = w.heap.size + 1 → wpList P ops Q rest (a.put o.dst (.pointer (some ⟨w.heap.size, 0, none⟩))) w') : wpList P ops Q (o :: rest) a w := by
  obtain ⟨i, hi, hz, hs⟩ := hA.hi
  refine wpList_plain hg fun K hK => ?_
  have hzv : (zeroValue t).run P w = .ok (.agg zs.toArray) w := by simp [zeroValue, typeInfo, hi, hz]
  unfold Oper.wp execOp
  simp only [ho, Sem.run_bind, Instr.alloc, hzv, newVar, newRow, run_newObj_alloc, Sem.run_pure, Result.andThen_ok]
  exact hK _ _ (h _ (by simpa [Value.cells] using Blk.new w zs.toArray t) ((Below.refl _ _).alloc (Nat.le_refl _) _) (by simp))

/-- A struct loaded from wherever its cells lie. -/
theorem wpList_loadS (hA : Str P t n zs) (hgd : o.guard = none) (x : Operand) (ho : o.op = .load t x) (g m : Nat) (hx : a.eval x = .pointer (some ⟨g, m, none⟩)) (cs : List Value) (hb : w.rangeAt g m cs) (hl : cs.length = n)
    (h : wpList P ops Q rest (a.put o.dst (.agg cs.toArray)) w) : wpList P ops Q (o :: rest) a w := by
  obtain ⟨i, hi, _, hs⟩ := hA.hi
  obtain ⟨d, hu, hd⟩ := hA.ht
  exact wpList_load_mid hgd t x ho g m hx cs d hb hu (by cases d <;> simp_all [manyCells, TypeDesc.isRow]) (by rw [hi]; simp [hs, hl]) h

/-- A struct stored into a variable of its own. -/
theorem wpList_storeS (hA : Str P t n zs) (hgd : o.guard = none) (x y : Operand) (ho : o.op = .store t x y) (g : Nat) (hx : a.eval x = .pointer (some ⟨g, 0, none⟩)) (cs old : List Value) (hy : a.eval y = .agg cs.toArray)
    (hb : Blk w g old) (hold : old.length = n) (hl : cs.length = n) (h1 : ∀ u ∈ cs, u.oneCell' = true)
    (h : ∀ w', Blk w' g cs → Mods (fun k => k = g) w w' → w'.heap.size = w.heap.size → wpList P ops Q rest (a.put o.dst undef) w') : wpList P ops Q (o :: rest) a w := by
  obtain ⟨u, hg⟩ := hb
  obtain ⟨i, hi, _, hs⟩ := hA.hi
  refine wpList_store_row hgd t x y ho g cs.toArray hx hy u old.toArray hg (by rw [hi]; simp [hs, hl]) (by simp [hold, hl]) (by simpa using h1) ?_
  exact h _ ⟨u, setRow_heap w g _ _ u _ hg⟩ (mods_setRow w g _) (by simp)

/-- A result that lies in a variable. -/
theorem run_loadS (hA : Str P t n zs) (g : Nat) (cs : List Value) (hb : Blk w g cs) (hl : cs.length = n) : (loadVar t ⟨g, 0, none⟩).run P w = .ok (.agg cs.toArray) w := by
  obtain ⟨i, hi, _, hs⟩ := hA.hi
  obtain ⟨d, hu, hd⟩ := hA.ht
  exact run_loadVar_mid w g 0 t cs d hb.rangeAt hu (by cases d <;> simp_all [manyCells, TypeDesc.isRow]) (by rw [hi]; simp [hs, hl])
theorem resultsS (hA : Str P t n zs) {fn : Func} {p : Tmp} (h : fn.results = #[.cell p t]) (tmps : Array Value) (g : Nat) (hp : tmps.getD p undef = .pointer (some ⟨g, 0, none⟩)) (cs : List Value) (hb : Blk w g cs) (hl : cs.length = n) :
    (results fn tmps).run P w = .ok (.agg cs.toArray) w := by
  have hp' : tmps[p]?.getD undef = .pointer (some ⟨g, 0, none⟩) := by simpa using hp
  simp [results, h, hp', asAddr, run_loadS hA g cs hb hl]
theorem resultsS2 (hA : Str P t n zs) {fn : Func} {p u : Tmp} (h : fn.results = #[.cell p t, .tmp u]) (tmps : Array Value) (g : Nat) (hp : tmps.getD p undef = .pointer (some ⟨g, 0, none⟩)) (cs : List Value) (hb : Blk w g cs) (hl : cs.length = n) :
    (results fn tmps).run P w = .ok (.tuple #[.agg cs.toArray, tmps.getD u undef]) w := by
  have hp' : tmps[p]?.getD undef = .pointer (some ⟨g, 0, none⟩) := by simpa using hp
  simp [results, h, hp', asAddr, run_loadS hA g cs hb hl]
end
end Go.Proofs.YtgpmoimmpbkgfaaGreatDoor

end

section
/- Layer 5: the first form that is possible, as the program takes it. -/
set_option linter.unusedVariables false
namespace Go.Proofs.YtgpmoimmpbkgfaaGreatDoor
open Go Go.RowKit

/-- The program's table of forms. -/
def TabF (w : World) : Prop := ∀ k, k ≤ 4 → w.cell? ⟨0, k * 3, none⟩ = some (.int .u64 (markT k : Int)) ∧ w.cell? ⟨0, k * 3 + 1, none⟩ = some (.int .i64 (markLenT k : Int)) ∧ w.cell? ⟨0, k * 3 + 2, none⟩ = some (.int .i64 (widthT k : Int))
theorem TabF.block {w w' : World} (h : TabF w) (hb : w'.heap[0]? = w.heap[0]?) : TabF w' := fun k hk => by
  have := h k hk
  unfold World.cell? at this ⊢
  rw [hb]
  exact this
theorem TabF.lt {w : World} (h : TabF w) : 0 < w.heap.size := World.block_lt_of_cell? w _ (h 0 (by decide)).1
theorem TabF.below {w w' : World} {B : Nat} (h : TabF w) (hb : Below B w w') (hB : w.heap.size ≤ B) : TabF w' := h.block (hb.block _ (Nat.lt_of_lt_of_le h.lt hB))

theorem strForm : Str Tryz.prog 104 3 [.int .u64 0, .int .i64 0, .int .i64 0] := Str.mk' Tryz.underlying104 rfl (by kernel_rfl) rfl
theorem formCells_one (k : Nat) : ∀ u ∈ formCells k, u.oneCell' = true := by
  intro u hu
  simp only [formCells, List.mem_cons, List.not_mem_nil, or_false] at hu
  rcases hu with rfl | rfl | rfl <;> rfl

set_option maxHeartbeats 1000000 in
theorem formOf_any (x : Int) (w : World) (hT : TabF w) :
    Calls Tryz.prog 59 #[.int .i64 x] w fun e w' => e = .returned (formV (formT x)) ∧ Below w.heap.size w w' := by
  have hf4 := formT_le x
  go_enter Tryz.func59, Tryz.ntmps59
  go_wp2_with fail
  obtain ⟨w1, hw1⟩ : ∃ w1, w.alloc (.cells #[.int .u64 0, .int .i64 0, .int .i64 0] 104) = w1 := ⟨_, rfl⟩
  have HK1 : Hid (Blk w1 w.heap.size [.int .u64 0, .int .i64 0, .int .i64 0]) := by rw [← hw1]; exact Blk.new w _ _
  have HB1 : Hid (Below w.heap.size w w1) := by rw [← hw1]; exact (Below.refl _ w).alloc (Nat.le_refl _) _
  have HS1 : Hid (w1.heap.size = w.heap.size + 1) := by rw [← hw1]; show _ = _; simp
  have HT1 := Lib.hid (hT.below HB1.out (Nat.le_refl _))
  rw [hw1]
  clear hw1 hT
  go_loopw [3, 4] (fun i c wr => ∃ k : Nat, k ≤ 4 ∧ k ≤ formT x ∧ c = .int .i64 (k : Int) ∧ Hid (Below w1.heap.size w1 wr)) (fun _ c _ => 4 - (intOf c).toNat)
  case atStart => exact ⟨0, by omega, by omega, rfl, Below.refl _ _⟩
  case round =>
    obtain ⟨k, hk4, hkf, rfl, HBr⟩ := hrel
    by_cases hlt : k < 4
    · have hlt' : (k : Int) < 4 := by omega
      have hlt5 : (k : Int) < 5 := by omega
      have HTr := Lib.hid (HT1.out.below HBr.out (Nat.le_refl _))
      obtain ⟨t0, t1, t2⟩ := HTr.out k (by omega)
      have HP := Lib.hid (possible_any x k (by omega) wr)
      go_wp2_with fail
      refine HP.out.mono ?_
      rintro e w2 ⟨rfl, hB2⟩
      have HB2 := Lib.hid (HBr.out.trans (hB2.mono HBr.out.size))
      have HT2 := Lib.hid (HTr.out.below hB2 (Nat.le_refl _))
      clear hB2 t0 t1 t2
      by_cases hp : formT x ≤ k
      · obtain ⟨t0, t1, t2⟩ := HT2.out k (by omega)
        have hd : decide (formT x ≤ k) = true := by simpa using hp
        have HK2 : Hid (Blk w2 w.heap.size [.int .u64 0, .int .i64 0, .int .i64 0]) := HK1.out.of_same (HB2.out.block _ (by have := HS1.out; omega))
        obtain ⟨⟨c0, c1, c2⟩, f0, f1, f2⟩ := HK2.out.three
        rw [hd]
        go_wp2_with fail
        have he : formT x = k := by omega
        rw [he]
        refine bodyPost_ret (resultsS (p := 2) strForm (by kernel_rfl) _ w.heap.size rfl (formCells k) (HK2.out.set3 _ _ _) rfl) rfl ⟨rfl, ?_⟩
        have h1 := HB1.out; have h2 := HB2.out
        exact (h1.trans (h2.mono h1.size)).trans ((mods_set3 _ _ _ _ _).below (Nat.le_trans h1.size h2.size) (fun j hj e => by omega))
      · have hd : decide (formT x ≤ k) = false := by simpa using hp
        rw [hd]
        go_wp2_with fail
        go_round
        case rel => exact ⟨k + 1, by omega, by omega, by go_num, HB2.out⟩
        case measure => simp [intOf]; omega
    · have hlt' : ¬ (k : Int) < 4 := by omega
      have he : formT x = 4 := by omega
      have HTr := Lib.hid (HT1.out.below HBr.out (Nat.le_refl _))
      have t0 : wr.cell? ⟨0, 12, none⟩ = some (.int .u64 15) := (HTr.out 4 (by omega)).1
      have t1 : wr.cell? ⟨0, 13, none⟩ = some (.int .i64 4) := (HTr.out 4 (by omega)).2.1
      have t2 : wr.cell? ⟨0, 14, none⟩ = some (.int .i64 64) := (HTr.out 4 (by omega)).2.2
      have HK2 : Hid (Blk wr w.heap.size [.int .u64 0, .int .i64 0, .int .i64 0]) := HK1.out.of_same (HBr.out.block _ (by have := HS1.out; omega))
      obtain ⟨⟨c0, c1, c2⟩, f0, f1, f2⟩ := HK2.out.three
      have HE := Lib.hid he
      clear he
      go_wp2_with fail
      rw [HE.out]
      refine bodyPost_ret (resultsS (p := 2) strForm (by kernel_rfl) _ w.heap.size rfl (formCells 4) (HK2.out.set3 _ _ _) rfl) rfl ⟨rfl, ?_⟩
      have h1 := HB1.out; have h2 := HBr.out
      exact (h1.trans (h2.mono h1.size)).trans ((mods_set3 _ _ _ _ _).below (Nat.le_trans h1.size h2.size) (fun j hj e => by omega))
theorem formOf_cells (x : Int) (w : World) (hT : TabF w) :
    Calls Tryz.prog 59 #[.int .i64 x] w fun e w' => e = .returned (.agg #[.int .u64 (markT (formT x) : Int), .int .i64 (markLenT (formT x) : Int), .int .i64 (widthT (formT x) : Int)]) ∧ Below w.heap.size w w' :=
  formOf_any x w hT
end Go.Proofs.YtgpmoimmpbkgfaaGreatDoor

end

section
/- A range over a function, at the widest fence. No program in sight. -/
namespace Go.Proofs.YtgpmoimmpbkgfaaGreatDoor
open Go Go.RowKit Go.Shelf

/-- In a round an operation that defers nothing is carried out as everywhere. -/
theorem operIn_round {P : Program} {l n : Nat} {o : Oper} {a : Act} {w : World} {next next' : Act → World → Prop} {Q : Exit → Act → World → Prop} (hd : ∀ c, o.op ≠ .defer c) (hn : ∀ a w, next a w → next' a w) (hQ : ¬ LetsOut Q)
    (h : o.wp P a w next Q) : o.wpIn (Fence.wide.inRound l) n P a w next' Q := by
  refine ⟨fun _ _ => trivial, ?_⟩
  show o.uponIn _ n P a next' Q ((o.semAt (some l) a.eval).run P w)
  rw [Oper.semAt_some l a.eval o hd]
  unfold Oper.wp at h
  have hdep : (Fence.wide.inRound l).depth.isSome = true → 1 ≤ n := fun h => by cases h
  revert h
  generalize (execOp a.eval o).run P w = r
  intro h
  cases r with
  | ok v w1 =>
    cases v with
    | value v => exact hn _ _ h
    | skip => exact hn _ _ h
    | defer d => exact hn _ _ h
    | enter f args =>
      refine ⟨hdep, CallsIn.inRound l (callsIn_wide.2 (Calls.mono h ?_))⟩
      intro e w2 h2
      cases e with
      | returned v => exact hn _ _ h2
      | panicked ch => exact h2
      | outgrown => exact absurd h2 hQ
    | row row args =>
      refine ⟨hdep, fun c cs _ => ?_⟩
      obtain ⟨v, w2, h2, s⟩ := h c cs
      exact ⟨v, w2, hn _ _ h2, stepsIn_wide.2 s⟩
    | _ => exact h.elim
  | halt hh w1 =>
    cases hh with
    | panic v => exact h
    | _ => exact h.elim

theorem wpListIn_round {P : Program} {l n : Nat} {ops : Array Oper} {Q : Exit → Act → World → Prop} (hQ : ¬ LetsOut Q) : ∀ (os : List Oper) (a : Act) (w : World), (∀ o ∈ os, ∀ c, o.op ≠ .defer c) →
    wpList P ops Q os a w → wpListIn (Fence.wide.inRound l) n P ops Q os a w
  | [], _, _, _, h => h
  | o :: os, a, w, hd, h => by
    unfold wpListIn
    unfold wpList at h
    split
    · next hw =>
      rw [if_pos hw] at h
      rcases h with h | h
      · exact operIn_round (hd o (by simp)) (fun a w => wpListIn_round hQ os a w (fun o h => hd o (by simp [h]))) hQ h
      · exact absurd h.2 hQ
    · next hw =>
      rw [if_neg hw] at h
      exact ⟨fun _ _ => trivial, wpListIn_round hQ os _ _ (fun o h => hd o (by simp [h])) h⟩

/-! ### What the caller says of its own memory abides the loop's own steps -/
theorem row_other {W : World} {row : Option Nat} {b : Nat} {cs : Array Value} {t : TypeId} {fz : Nat × Nat} (h : W.heap[b]? = some (.cells cs t fz)) (hr : ∀ r, row = some r → ∃ o : Obj, W.heap[r]? = some o ∧ o.isCells = false) : some b ≠ row := fun e => by
  obtain ⟨o, ho, hc⟩ := hr b e.symm
  rw [h] at ho; cases ho; cases hc
theorem own_blk {β : Type} (b : Nat) (f : β → List Value) : Own (fun s W => Blk W b (f s)) := by
  rintro s W W' row ⟨t, h⟩ hg hr
  exact ⟨t, (hg.block b (Array.getElem?_eq_some_iff.1 h).1 (row_other h hr)).trans h⟩
theorem owns_abides {W W' : World} {row : Option Nat} {base : Nat} {e : TypeId} {sz : Nat} {v : Value} {n : Nat} {xs : List Value} (h : W.ownsRow base e sz v n xs) (hg : W.grownBy W' row) (hr : ∀ r, row = some r → ∃ o : Obj, W.heap[r]? = some o ∧ o.isCells = false) : W'.ownsRow base e sz v n xs := by
  refine h.kept hg ?_
  rcases h.2 with ⟨rfl, _⟩ | ⟨g, cap, cur, rfl, _, hgb, _⟩
  · exact .inl rfl
  · exact .inr (fun e => row_other hgb hr e)
theorem ownFrom_mods {β : Type} {B : Nat} {S : Nat → Prop} {w : World} (hB : w.heap.size ≤ B) : OwnFrom B (fun (_ : β) W => Mods S w W) := by
  intro s W W' row h hg hr
  refine ⟨hg.os.trans h.os, hg.tape.trans h.tape, hg.output.trans h.output, Nat.le_trans h.size hg.size, fun k hk hs => ?_⟩
  refine (hg.block k (by have := h.size; omega) (fun e => ?_)).trans (h.block k hk hs)
  have := (hr k e.symm).1
  omega
theorem ownFrom_pure {β : Type} {B : Nat} (p : β → Prop) : OwnFrom B (fun s (_ : World) => p s) := fun _ _ _ _ h _ _ => h
/-- The box holds a row that the call may write, which has come of v. -/
def Holds (e : TypeId) (sz b : Nat) (v : Value) (n : Nat) (xs : List Value) (w W : World) : Prop :=
  ∃ v', Blk W b [v'] ∧ W.ownsRow 0 e sz v' n xs ∧ Fresh w.heap.size v v' ∧ (v'.ownBlock ≠ some b) ∧ Mods (fun k => v.ownBlock = some k) w W
theorem ownFrom_holds {β : Type} {B : Nat} {w : World} (hB : w.heap.size ≤ B) (e : TypeId) (sz b : Nat) (v : Value) (n : β → Nat) (xs : β → List Value) : OwnFrom B (fun s W => Holds e sz b v (n s) (xs s) w W) := by
  rintro s W W' row ⟨v', h1, h2, h3, h4, h5⟩ hg hr
  have hr' : ∀ r, row = some r → ∃ o : Obj, W.heap[r]? = some o ∧ o.isCells = false := fun r e => (hr r e).2
  exact ⟨v', own_blk b (fun _ : Unit => [v']) () W W' row h1 hg hr', owns_abides h2 hg hr', h3, h4, ownFrom_mods hB () W W' row h5 hg hr⟩
theorem KeepsOthers.of_mods {S : Nat → Prop} {W W' : World} (h : Mods S W W') (hS : ∀ k o, S k → W.heap[k]? = some o → o.isCells = true) : KeepsOthers W W' :=
  ⟨h.size, fun k o hk ho => (h.block k (Array.getElem?_eq_some_iff.1 hk).1 (fun e => by rw [hS k o e hk] at ho; cases ho)).trans hk⟩
theorem owns_isCells {W : World} {base : Nat} {e : TypeId} {sz : Nat} {v : Value} {n : Nat} {xs : List Value} (h : W.ownsRow base e sz v n xs) : ∀ k o, v.ownBlock = some k → W.heap[k]? = some o → o.isCells = true := by
  intro k o hk ho
  rcases h.2 with ⟨rfl, _⟩ | ⟨g, cap, cur, rfl, _, hgb, _⟩
  · simp [Value.ownBlock] at hk
  · obtain rfl : g = k := by simpa [Value.ownBlock] using hk
    rw [hgb] at ho; cases ho; rfl
/-- An append in the body of a round: the box holds the longer row. -/
theorem Holds.pushed {e : TypeId} {sz b : Nat} {v v1 v2 : Value} {n m : Nat} {xs ys : List Value} {w W w1 : World} (hb : w.heap.size ≤ b) (h1 : Blk W b [v1]) (h2 : W.ownsRow 0 e sz v1 n xs) (h3 : Fresh w.heap.size v v1) (h4 : v1.ownBlock ≠ some b) (h5 : Mods (fun k => v.ownBlock = some k) w W)
    (k1 : w1.ownsRow 0 e sz v2 m ys) (k2 : Mods (fun k => v1.ownBlock = some k) W w1) (k3 : Fresh W.heap.size v1 v2) :
    Holds e sz b v m ys w (w1.setCell ⟨b, 0, none⟩ v2) ∧ KeepsOthers W (w1.setCell ⟨b, 0, none⟩ v2) := by
  have hne : v2.ownBlock ≠ some b := fun e => by
    rcases k3 b e with e | e
    · exact h4 e
    · have := h1.lt; omega
  refine ⟨⟨v2, ?_, ?_, ?_, hne, ?_⟩, (KeepsOthers.of_mods k2 (owns_isCells h2)).trans (KeepsOthers.setCell _ _ _)⟩
  · simpa using (k2.blk h1 h4).set 0 v2
  · exact (Mods.set (fun k => k = b) w1 ⟨b, 0, none⟩ v2 (fun _ => rfl)).owns k1 (fun k hk e => hne (by rw [hk, e]))
  · exact h3.trans k3 h5.size
  · refine (h5.trans k2 (fun j hj e => ?_)).trans (Mods.set (fun k => k = b) w1 ⟨b, 0, none⟩ v2 (fun _ => rfl)) (fun j hj e => by omega)
    rcases h3 j e with e | e
    · exact e
    · omega
theorem not_letsOut_body {α : Type} {id B : Nat} {Kp : World → World → Prop} {I : List α → World → Prop} {Ix : Code → List α → World → Prop} {xs : List α} {W : World} : ¬ LetsOut (Exit.inBlock id (ownPostG B Kp I Ix xs W)) := by
  rintro ⟨_, _, h⟩; exact h
theorem Mods.putObj {S : Nat → Prop} {w W : World} (h : Mods S w W) {D : Nat} (hD : w.heap.size ≤ D) (o : Obj) : Mods S w (W.putObj D o) := by
  have hg := grownBy_putObj' W D o
  exact ⟨hg.os.trans h.os, hg.tape.trans h.tape, hg.output.trans h.output, Nat.le_trans h.size hg.size, fun k hk hs => (hg.block k (by have := h.size; omega) (fun e => by cases e; omega)).trans (h.block k hk hs)⟩
end Go.Proofs.YtgpmoimmpbkgfaaGreatDoor

end

section
/- An iterator that reads memory between two rounds: the blocks that must stay as they were. No program in sight. -/
namespace Go.Proofs.YtgpmoimmpbkgfaaGreatDoor
open Go Go.RowKit Go.Shelf

/-- The blocks K are as they were. -/
def KeepAt (K : Nat → Prop) (A B : World) : Prop := ∀ k, K k → B.heap[k]? = A.heap[k]?
theorem keepAt_t {K : Nat → Prop} {A B C : World} (h : KeepAt K A B) (k : KeepAt K B C) : KeepAt K A C := fun j hj => (k j hj).trans (h j hj)
theorem keepAt_b {K : Nat → Prop} {w : World} (hK : ∀ k, K k → k < w.heap.size) (W : World) (l : Nat) (o o' : Obj) (hl : w.heap.size ≤ l) (h : W.heap[l]? = some o) (_ : o.isCells = false) (_ : o.isWalk = false) : KeepAt K W (W.putObj l o') := fun k hk => by
  have h1 := hK k hk
  have h2 := (Array.getElem?_eq_some_iff.1 h).1
  exact (grownBy_putObj' W l o').block k (by omega) (fun e => by cases e; omega)
theorem KeepAt.cell {K : Nat → Prop} {A B : World} (h : KeepAt K A B) {b : Nat} (hb : K b) (i : Nat) : B.cell? ⟨b, i, none⟩ = A.cell? ⟨b, i, none⟩ := by
  unfold World.cell?
  rw [h b hb]
theorem KeepAt.rd {K : Nat → Prop} {A B : World} (h : KeepAt K A B) {sz : Nat} {v : Value} {n : Nat} {xs : List Value} (hr : Rd A sz v n xs) (hv : ∀ k, v.ownBlock = some k → K k) : Rd B sz v n xs := by
  refine hr.of_cells fun a u hu ⟨p, hp, hab⟩ => ?_
  have hk : K a.block := hv _ (by rw [hp, hab]; rfl)
  rw [← hu]
  exact World.cell?_of_block (h _ hk)

theorem grown_drewN (w : World) (n : Nat) : w.grownBy (w.drewN n) none := ⟨rfl, rfl, rfl, Nat.le_refl _, fun _ _ _ => rfl⟩
theorem grown_below {w w' : World} (h : Below w.heap.size w w') : w.grownBy w' none := ⟨h.os, h.tape, h.output, h.size, fun k hk _ => h.block k hk⟩
theorem keepAt_below {K : Nat → Prop} {w A B : World} (h : KeepAt K w A) (hK : ∀ k, K k → k < w.heap.size) (hb : Below A.heap.size A B) : KeepAt K w B := fun k hk => by
  have h1 := h k hk
  obtain ⟨o, ho⟩ : ∃ o, w.heap[k]? = some o := ⟨_, Array.getElem?_eq_getElem (hK k hk)⟩
  rw [ho] at h1
  exact (hb.block k (Array.getElem?_eq_some_iff.1 h1).1).trans (h k hk)
end Go.Proofs.YtgpmoimmpbkgfaaGreatDoor

end

section
/- Layer 5: the function that yields the differences of the differences. -/
set_option linter.unusedVariables false
namespace Go.Proofs.YtgpmoimmpbkgfaaGreatDoor
open Go Go.RowKit Go.Shelf
attribute [local go_sem] Oper.semAt_some

/-- The differences of the differences. -/
def changesT (last d : Int) : List Int → List Int
  | [] => []
  | t :: l => wrap64 (wrap64 (t - last) - d) :: changesT t (wrap64 (t - last)) l
theorem encFrom_changes (last d : Int) (l : List Int) : encFrom last d l = (changesT last d l).flatMap encX := by
  induction l generalizing last d with
  | nil => rfl
  | cons t l ih => rw [encFrom, changesT, List.flatMap_cons, ih]
theorem changesT_length (last d : Int) (l : List Int) : (changesT last d l).length = l.length := by
  induction l generalizing last d with
  | nil => rfl
  | cons t l ih => rw [changesT, List.length_cons, List.length_cons, ih]
theorem changesT_in (last d : Int) (l : List Int) : ∀ x ∈ changesT last d l, in64 x := by
  induction l generalizing last d with
  | nil => intro x hx; cases hx
  | cons t l ih =>
    intro x hx
    rw [changesT] at hx
    rcases List.mem_cons.1 hx with rfl | h
    · exact w64_in _
    · exact ih _ _ x h

theorem new_changes (p : Option Addr) (m c : Nat) (w : World) (n : Nat) :
    CallsIn Fence.wide n Tryz.prog 58 #[.slice p m c] w fun e w' => e = .returned (.func (.func 95) #[] #[.pointer (some ⟨w.heap.size, 0, none⟩)]) ∧ w' = w.alloc (.cells #[.slice p m c] 61) := by
  refine callsIn_wide.2 ?_
  go_enter Tryz.func58, Tryz.ntmps58
  go_wp2_with fail
  go_ret
  exact ⟨rfl, rfl⟩

set_option maxRecDepth 100000 in
set_option maxHeartbeats 1000000 in
theorem changes_gives (n : Nat) (hn : 1 ≤ n) (b : Nat) (lv : Value) (ls : List Int) (t0 : Int) (tl : List Int) (els : ls = t0 :: tl) (w : World) (hc : w.cell? ⟨b, 0, none⟩ = some lv) (hl : Rd w 1 lv ls.length (i64s ls)) :
    SeqStopsK Fence.wide n Tryz.prog 95 #[.pointer (some ⟨b, 0, none⟩)] (fun x : Int => #[.int .i64 x]) (KeepAt (fun k => k = b ∨ lv.ownBlock = some k)) (fun ys => ys = changesT t0 0 tl) (fun _ => True) (changesT t0 0 tl).length w := by
  intro l J Jx W hW hJ hJx hY h0
  have hb : b < w.heap.size := World.block_lt_of_cell? w _ hc
  have HK0 : Hid (KeepAt (fun k => k = b ∨ lv.ownBlock = some k) w W) := fun k hk => hW.block k (by
    rcases hk with e | e
    · omega
    · exact hl.lt (by rw [els]; simp [i64s]) k e)
  have HC := Lib.hid hc; have HL := Lib.hid hl
  have HJ := Lib.hid hJ; have HEL := Lib.hid els
  have HY := Lib.hid hY; have HN : Hid (ls.length = tl.length + 1) := by show _ = _; rw [els]; rfl
  have hmax : (ls.length : Int) ≤ 9223372036854775807 := by have := hl.le; unfold maxLen at this; omega
  clear hc hJ els hY
  obtain ⟨p, c, hv⟩ := hl.shape
  subst hv
  clear hl
  obtain ⟨K, hK⟩ : ∃ K : Nat → Prop, (fun k => k = b ∨ (Value.slice p ls.length c).ownBlock = some k) = K := ⟨_, rfl⟩
  have HKb : Hid (K b) := by rw [← hK]; exact Or.inl rfl
  have HKv : Hid (∀ k, (Value.slice p ls.length c).ownBlock = some k → K k) := by rw [← hK]; exact fun k hk => Or.inr hk
  rw [hK] at HK0 HY
  clear hK
  refine callsIn_of_wp Tryz.func95 rfl trivial ?_ rfl
  simp only [Tryz.ntmps95, List.size_toArray, List.length_cons, List.length_nil, Nat.reduceAdd, Nat.reduceSub, Array.replicate_succ, Array.replicate_zero, List.push_toArray, List.append_toArray, List.nil_append, List.cons_append]
  gi_wp2
  gi_loopw [3, 4] (fun dv iv wr => ∃ (i k : Nat) (pre : List Int) (last d : Int), i = k + 1 ∧ i ≤ ls.length ∧ iv = .int .i64 (i : Int) ∧ dv = .int .i64 d ∧ Hid (ls[k]? = some last ∧ changesT t0 0 tl = pre ++ changesT last d (ls.drop i)) ∧ Hid (J pre wr ∧ KeepAt K w wr)) (fun _ iv _ => ls.length - (intOf iv).toNat)
  case atStart => exact ⟨1, 0, [], t0, 0, rfl, by rw [HN.out]; omega, rfl, rfl, by rw [HEL.out]; exact ⟨rfl, rfl⟩, h0, HK0.out⟩
  case round =>
    obtain ⟨i, k, pre, last, d, hik, h2, rfl, rfl, HP, HI⟩ := hrel
    have cb := (HI.out.2.cell HKb.out 0).trans HC.out
    by_cases h : i < ls.length
    · have hlt : (i : Int) < (ls.length : Int) := by omega
      have hi1 : (i : Int) - 1 = (k : Int) := by omega
      have hkl : (k : Int) < (ls.length : Int) := by omega
      have HR := Lib.hid (HI.out.2.rd HL.out HKv.out)
      obtain ⟨b0, off, c', e, _, _, hcl⟩ := HR.out.at (fun e => by have := congrArg List.length e; rw [i64s_length] at this; simp at this; subst this; simp at h)
      simp only [Value.slice.injEq] at e
      obtain ⟨rfl, _, rfl⟩ := e
      have c1 := hcl i (.int .i64 ls[i]) (by simp [i64s, h])
      have c2 := hcl k (.int .i64 last) (by rw [i64s, List.getElem?_map, HP.out.1]; rfl)
      have HD : Hid (ls.drop i = ls[i] :: ls.drop (i + 1)) := List.drop_eq_getElem_cons h
      have HLi : Hid (ls[i]? = some ls[i]) := List.getElem?_eq_getElem h
      generalize ls[i] = t at *
      clear hcl HR hik
      gi_wp2
      refine wpIn_wide.2 ?_
      go_quiet (fail)
      have HI2 : Hid (J pre (wr.drewN nq) ∧ KeepAt K w (wr.drewN nq)) := ⟨HJ.out pre wr _ none HI.out.1 (grown_drewN wr nq) (fun r e => by cases e), HI.out.2⟩
      clear HI cb c1 c2 hi1 hkl
      have hex : Hid (changesT t0 0 tl = pre ++ wrap64 (wrap64 (t - last) - d) :: changesT t (wrap64 (t - last)) (ls.drop (i + 1))) := by
        have := HP.out.2
        rw [HD.out, changesT] at this
        exact this
      obtain ⟨fn, tmps, assign, body, hyl, hR⟩ := HY.out pre (wrap64 (wrap64 (t - last) - d)) (wr.drewN nq) HI2.out.1 (by rw [hex.out, List.length_append, List.length_cons]; omega)
      have hex2 : Hid (changesT t0 0 tl = (pre ++ [wrap64 (wrap64 (t - last) - d)]) ++ changesT t (wrap64 (t - last)) (ls.drop (i + 1))) := by show _ = _; rw [hex.out, List.append_assoc]; rfl
      have hRH := Lib.hid hR
      clear HP HD hR hex
      generalize wr.drewN nq = wy at *
      gi_wp2
      refine hRH.out.mono ?_
      rintro e W3 (⟨rfl, hJ3, hk3⟩ | ⟨rfl, hJx3⟩)
      · have HI3 := Lib.hid (And.intro hJ3 (keepAt_t HI2.out.2 hk3))
        clear hJ3 hk3
        gi_wp2
        go_roundw
        case rel => exact ⟨i + 1, i, _, t, wrap64 (t - last), rfl, by omega, by go_num, rfl, ⟨HLi.out, hex2.out⟩, HI3.out⟩
        case measure => simp [intOf]; omega
      · gi_wp2
        refine bodyPost_ret (results_none rfl _ _ _) rfl ?_
        exact ⟨⟨_, rfl⟩, .inr ⟨_, trivial, hJx3⟩⟩
    · have hlt : ¬ (i : Int) < (ls.length : Int) := by omega
      have HE : Hid (changesT t0 0 tl = pre) := by
        show _ = _
        rw [HP.out.2, List.drop_of_length_le (by omega), changesT, List.append_nil]
      clear HP hik
      gi_wp2
      go_end0
      refine ⟨⟨_, rfl⟩, .inl ?_⟩
      have := HI.out.1
      rw [← HE.out] at this
      exact this
end Go.Proofs.YtgpmoimmpbkgfaaGreatDoor

end

section
/- Layer 5: lengths of encodings. -/
set_option linter.unusedVariables false
namespace Go.Proofs.YtgpmoimmpbkgfaaGreatDoor
open Go Go.RowKit

theorem headT_length {k : Nat} (hk : k ≤ 4) : (headT k).length = markLenT k := by
  match k, hk with
  | 0, _ => rfl
  | 1, _ => rfl
  | 2, _ => rfl
  | 3, _ => rfl
  | 4, _ => rfl
theorem encX_length (x : Int) : (encX x).length = markLenT (formT x) + widthT (formT x) := by
  rw [encX, List.length_append, fieldBits_length, headT_length (formT_le x)]
theorem encT_changes (t0 : Int) (tl : List Int) : encT (t0 :: tl) = fieldBits (ofI t0) 64 ++ (changesT t0 0 tl).flatMap encX := by rw [encT, encFrom_changes]
theorem flat_take_le {pre ys : List Int} (h : pre.length ≤ ys.length) : True := trivial
theorem encX_all (ys : List Int) : (ys.flatMap encX).length ≤ 68 * ys.length := by
  induction ys with
  | nil => exact Nat.le_refl _
  | cons y ys ih => rw [List.flatMap_cons, List.length_append, List.length_cons]; have := encX_len y; omega
end Go.Proofs.YtgpmoimmpbkgfaaGreatDoor

end

section
/- Layer 5: what Get leaves. -/
set_option linter.unusedVariables false
namespace Go.Proofs.YtgpmoimmpbkgfaaGreatDoor
open Go Go.RowKit

theorem below_drew (w : World) : Below w.heap.size w w.drew := ⟨rfl, rfl, rfl, Nat.le_refl _, fun _ _ => rfl⟩
/-- What Get leaves. -/
structure GetQ (p : Nat) (v : Value) (bs : List Nat) (w : World) (o : Res (List Int)) (e : Ending) (w' : World) : Prop where
  res : ∃ r, e = .returned (.tuple #[r, .int .i64 (o.e : Int)]) ∧ Rd w' 1 r o.x.length (i64s o.x) ∧ (∀ k, r.ownBlock = some k → w.heap.size ≤ k)
  rd : RBitsPost p v (8 * bs.length - o.r.length) bs w w'
theorem i64s_lt {w : World} {lv : Value} {l : List Int} (hl : Rd w 1 lv l.length (i64s l)) : l ≠ [] → ∀ k, lv.ownBlock = some k → k < w.heap.size := fun hne => hl.lt (fun e => hne (by simpa [i64s] using e))
end Go.Proofs.YtgpmoimmpbkgfaaGreatDoor

end

section
/- A writer in the rounds of a range over a function. -/
namespace Go.Proofs.YtgpmoimmpbkgfaaGreatDoor
open Go Go.RowKit Go.Shelf

/-- Where Put stands between two rounds. -/
def PutIn (p : Nat) (v : Value) (W0 : World) (out : List Bool) (W : World) : Prop := ∃ v', WriterIn W p v' out ∧ Upd W0 W p v v'
theorem putIn_own {β : Type} {B : Nat} {W0 : World} (hB : W0.heap.size ≤ B) (p : Nat) (v : Value) (f : β → List Bool) : OwnFrom B (fun s W => PutIn p v W0 (f s) W) := by
  rintro s W W' row ⟨v', h1, h2⟩ hg hr
  have hr' : ∀ r, row = some r → ∃ o : Obj, W.heap[r]? = some o ∧ o.isCells = false := fun r e => (hr r e).2
  exact ⟨v', ⟨own_blk p (fun _ : Unit => [.int .i64 (f s).length, v']) () W W' row h1.blk hg hr', owns_abides h1.own hg hr', h1.ne⟩, ⟨ownFrom_mods hB () W W' row h2.mods hg hr, h2.fresh⟩⟩
/-- A stretch of the body: the writer's own blocks alone may turn. -/
theorem putIn_keeps {p : Nat} {v' : Value} {W W' : World} {out : List Bool} (h : WriterIn W p v' out) (hm : Mods (fun k => k = p ∨ v'.ownBlock = some k) W W') : KeepsOthers W W' := by
  refine KeepsOthers.of_mods hm (fun k o hk ho => ?_)
  rcases hk with rfl | hk
  · obtain ⟨t, ht⟩ := h.blk
    rw [ht] at ho
    cases ho; rfl
  · exact owns_isCells h.own k o hk ho
end Go.Proofs.YtgpmoimmpbkgfaaGreatDoor

end
