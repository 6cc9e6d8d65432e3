/- Layer 1: what the functions of package bitio do, each by a contract. -/
import Derived.Test.YtpphgmgdmdehpaaBytes
import Derived.Test.YtpphgmgdmdehpaaBits
set_option maxRecDepth 20000
namespace Go.Proofs.Ytpphgmgdmdehpaa
open Go Go.RowKit


/-- A writer at block p: its bits, its slice of bytes v. -/
structure WriterIn (w : World) (p : Nat) (v : Value) (bits : List Bool) : Prop where
  blk : Blk w p [.int .i64 bits.length, v]
  own : w.ownsRow 0 5 1 v (pack bits).length (u8s (pack bits))
  ne : v.ownBlock ≠ some p

/-- What a call on a writer may change. -/
structure Upd (w w' : World) (p : Nat) (v v' : Value) : Prop where
  mods : Mods (fun k => k = p ∨ v.ownBlock = some k) w w'
  fresh : Fresh w.heap.size v v'
theorem Upd.refl (w : World) (p : Nat) (v : Value) : Upd w w p v v := ⟨Mods.refl _ _, Fresh.refl _ _⟩
theorem Upd.trans {a b c : World} {p : Nat} {u v x : Value} (h : Upd a b p u v) (k : Upd b c p v x) : Upd a c p u x :=
  ⟨h.mods.trans k.mods (fun j hj e => by
    rcases e with e | e
    · exact Or.inl e
    · rcases h.fresh j e with e | e
      · exact Or.inr e
      · omega), h.fresh.trans k.fresh h.mods.size⟩

theorem shift_any (n : Int) (w : World) (h0 : 0 ≤ n) (h1 : n ≤ 9223372036854775807) : Calls Try.prog 54 #[.int .i64 n] w fun e w' => e = .returned (.int .i64 (7 - n % 8)) ∧ w' = w := by
  go_enter Try.func54, Try.ntmps54
  go_wp2
  go_ret
  exact ⟨rfl, rfl⟩

def PushPost (p : Nat) (v : Value) (bits : List Bool) (b : Bool) (w w' : World) : Prop := ∃ v', WriterIn w' p v' (bits ++ [b]) ∧ Upd w w' p v v'

theorem pushed_old {w : World} {p g m cap : Nat} {bits : List Bool} (b : Bool) (h : WriterIn w p (.slice (some ⟨g, 0, none⟩) m cap) bits) (hr : bits.length % 8 ≠ 0) (y : Int) (hy : y = ((byteOf (bits ++ [b]) (bits.length / 8) : Nat) : Int)) :
    PushPost p (.slice (some ⟨g, 0, none⟩) m cap) bits b w (((w.setCell ⟨g, bits.length / 8, none⟩ (.int .u8 y)).setCell ⟨p, 0, none⟩ (.int .i64 (bits.length + 1))).drew) := by
  subst hy
  have hgp : g ≠ p := fun e => h.ne (by simp [Value.ownBlock, e])
  have hm : m = (pack bits).length := by
    rcases owns_cases h.own with ⟨e, _⟩ | ⟨g', c', e, _⟩
    · simp at e
    · simp at e; exact e.2.1
  subst hm
  have hst := (h.own.stored (bits.length / 8) (.int .u8 ((byteOf (bits ++ [b]) (bits.length / 8) : Nat) : Int))).1
  rw [u8s_set, ← pack_push_old bits b hr] at hst
  have hl : (pack (bits ++ [b])).length = (pack bits).length := by simp [pack_length]; omega
  refine ⟨.slice (some ⟨g, 0, none⟩) (pack bits).length cap, ⟨?_, ?_, h.ne⟩, ⟨?_, Fresh.refl _ _⟩⟩
  · have := (h.blk.set_other (a := ⟨g, bits.length / 8, none⟩) (Ne.symm hgp) (.int .u8 ((byteOf (bits ++ [b]) (bits.length / 8) : Nat) : Int))).set 0 (.int .i64 (bits.length + 1))
    exact Blk.drew (by simpa using this)
  · rw [hl]
    exact (Mods.set (fun k => k = p) _ ⟨p, 0, none⟩ _ (fun _ => rfl)).owns hst (fun k hk e => h.ne (by rw [← e]; exact hk))
  · exact ((Mods.set _ _ _ _ (fun _ => Or.inr rfl)).trans (Mods.set (fun k => k = p ∨ k = g) _ ⟨p, 0, none⟩ _ (fun _ => Or.inl rfl)) (fun j _ e => by
      rcases e with e | e
      · exact Or.inl e
      · exact Or.inr (by simp [Value.ownBlock, e]))).trans (Mods.drew (fun _ => False) _) (fun _ _ e => e.elim)

set_option maxHeartbeats 400000 in
theorem push_old (p g m cap : Nat) (bs : List Bool) (b : Bool) (c : Int) (w : World) (h : WriterIn w p (.slice (some ⟨g, 0, none⟩) m cap) bs) (hb : bs.length < 1125899906842624) (hr : bs.length % 8 ≠ 0)
    (hc : c = (b.toNat : Int)) : Calls Try.prog 39 #[.pointer (some ⟨p, 0, none⟩), .int .u8 c] w fun e w' => e = .returned (.tuple #[]) ∧ PushPost p (.slice (some ⟨g, 0, none⟩) m cap) bs b w w' := by
  have hgp : g ≠ p := fun e => h.ne (by simp [Value.ownBlock, e])
  have hm : m = (bs.length + 7) / 8 := by
    rcases owns_cases h.own with ⟨e, _⟩ | ⟨g', c', e, _⟩
    · simp at e
    · simp at e; rw [e.2.1, pack_length]
  have h0 : w.cell? ⟨p, 0, none⟩ = some (.int .i64 bs.length) := by rw [h.blk.cell]; rfl
  have h1 : w.cell? ⟨p, 1, none⟩ = some (.slice (some ⟨g, 0, none⟩) m cap) := by rw [h.blk.cell]; rfl
  have f0 : w.frozen? ⟨p, 0, none⟩ = false := h.blk.free 0
  have hg : w.cell? ⟨g, bs.length / 8, none⟩ = some (.int .u8 ((byteOf bs (bs.length / 8) : Nat) : Int)) := by
    have hown := h.own
    rw [pack_length, ← hm] at hown
    rw [hown.cellAt _ (by omega), u8s, List.getElem?_map, pack_get _ _ (by omega)]; rfl
  have fg : w.frozen? ⟨g, bs.length / 8, none⟩ = false := by
    have hown := h.own
    rw [pack_length, ← hm] at hown
    exact hown.frozenAt _
  have hor := or_bit bs b ((byteOf bs (bs.length / 8) : Nat) : Int) (c * 2 ^ (7 - bs.length % 8) % 256) rfl (by
    have hb1 : b.toNat ≤ 1 := by cases b <;> simp
    have hp : 2 ^ (7 - bs.length % 8) ≤ 2 ^ 7 := Nat.pow_le_pow_right (by omega) (by omega)
    have hx : b.toNat * 2 ^ (7 - bs.length % 8) < 256 := by
      have := Nat.mul_le_mul hb1 hp
      omega
    have e : (b.toNat : Int) * 2 ^ (7 - bs.length % 8) = ((b.toNat * 2 ^ (7 - bs.length % 8) : Nat) : Int) := by simp
    rw [hc, e]
    omega)
  have Hor := Lib.hid hor; clear hor
  have PP := fun y hy => pushed_old (w := w) b h hr y hy
  have HP := Lib.hid PP; clear PP
  clear h
  generalize hY : ((byteOf (bs ++ [b]) (bs.length / 8) : Nat) : Int) = Y at *
  generalize hK : ((byteOf bs (bs.length / 8) : Nat) : Int) = K at *
  clear hY hK
  generalize bs.length = n at *
  have hne : ((n : Int) % 8 == 0) = false := by rw [beq_eq_false_iff_ne]; omega
  have hlt : (n : Int) / 8 < (m : Int) := by omega
  have hge : 0 ≤ (n : Int) / 8 := by omega
  have hw1 : IntKind.i64.wrap ((n : Int) / 8) = (n : Int) / 8 := IntWalk.i64_in _ (by omega)
  have hs0 : (0 : Int) ≤ 7 - (n : Int) % 8 := by omega
  have hs1 : 7 - (n : Int) % 8 < 8 := by omega
  have hd : ((n : Int) / 8).toNat = n / 8 := by omega
  clear hm hc
  go_enter Try.func39, Try.ntmps39
  go_wp2_with fail
  go_still_tail 22, (by kernel_rfl)
  still_call (shift_any _ _ (by omega) (by omega))
  repeat still_step
  refine wpStill_nil ?_
  change wpList _ _ _ _ _ w.drew
  go_wp2
  go_end0
  exact ⟨rfl, HP.out _ Hor.out⟩

theorem pushed_new {w w1 : World} {p g m cap : Nat} {v : Value} {bits : List Bool} (b : Bool) (h : WriterIn w p v bits) (hr : bits.length % 8 = 0) (hb : Blk w1 p [.int .i64 bits.length, v])
    (ho : w1.ownsRow 0 5 1 (.slice (some ⟨g, 0, none⟩) m cap) ((pack bits).length + 1) (u8s (pack bits) ++ [.int .u8 0])) (hm : Mods (fun k => v.ownBlock = some k) w w1)
    (hf : Fresh w.heap.size v (.slice (some ⟨g, 0, none⟩) m cap)) (y : Int) (hy : y = ((b.toNat * 128 : Nat) : Int)) :
    PushPost p v bits b w ((((w1.setCell ⟨p, 1, none⟩ (.slice (some ⟨g, 0, none⟩) m cap)).setCell ⟨g, bits.length / 8, none⟩ (.int .u8 y)).setCell ⟨p, 0, none⟩ (.int .i64 (bits.length + 1))).drew) := by
  subst hy
  have hgp : g ≠ p := fun e => by
    rcases hf g rfl with h1 | h1
    · exact h.ne (by rw [h1, e])
    · have := h.blk.lt; omega
  have hm' : m = (pack bits).length + 1 := by
    rcases owns_cases ho with ⟨e, _⟩ | ⟨g', c', e, _⟩
    · simp at e
    · simp at e; exact e.2.1
  subst hm'
  have hq : (pack bits).length = bits.length / 8 := by rw [pack_length]; omega
  have e1 : u8s (pack bits) ++ [.int .u8 0] = u8s (pack bits ++ [0]) := by rw [u8s_append]; rfl
  have e2 : (pack bits ++ [0]).set (bits.length / 8) (b.toNat * 128) = pack (bits ++ [b]) := by
    rw [pack_push_new bits b hr, List.set_append_right _ _ (by omega), hq]; simp
  have ho1 := (Mods.set (fun k => k = p) w1 ⟨p, 1, none⟩ (.slice (some ⟨g, 0, none⟩) ((pack bits).length + 1) cap) (fun _ => rfl)).owns ho (fun k hk e => by simp [Value.ownBlock] at hk; omega)
  have hst := (ho1.stored (bits.length / 8) (.int .u8 ((b.toNat * 128 : Nat) : Int))).1
  rw [e1, u8s_set, e2] at hst
  have hl : (pack (bits ++ [b])).length = (pack bits).length + 1 := by simp [pack_length]; omega
  have hb1 := (((hb.set 1 (.slice (some ⟨g, 0, none⟩) ((pack bits).length + 1) cap)).set_other (a := ⟨g, bits.length / 8, none⟩) (Ne.symm hgp) (.int .u8 ((b.toNat * 128 : Nat) : Int))).set 0 (.int .i64 (bits.length + 1)))
  refine ⟨.slice (some ⟨g, 0, none⟩) ((pack bits).length + 1) cap, ⟨?_, ?_, ?_⟩, ⟨?_, hf⟩⟩
  · exact Blk.drew (by simpa using hb1)
  · rw [hl]
    exact (Mods.set (fun k => k = p) _ ⟨p, 0, none⟩ _ (fun _ => rfl)).owns hst (fun k hk e => by simp [Value.ownBlock] at hk; omega)
  · simp [Value.ownBlock]; exact hgp
  · have hgs : ∀ j, j < w.heap.size → j = g → (j = p ∨ v.ownBlock = some j) := fun j hj e => by
      rcases hf g rfl with h1 | h1
      · exact Or.inr (by rw [e]; exact h1)
      · omega
    exact ((((hm.mono (fun j _ e => Or.inr e)).trans (Mods.set (fun k => k = p) _ ⟨p, 1, none⟩ _ (fun _ => rfl)) (fun j _ e => Or.inl e)).trans (Mods.set (fun k => k = g) _ ⟨g, _, none⟩ _ (fun _ => rfl)) (fun j hj e => hgs j hj e)).trans
      (Mods.set (fun k => k = p) _ ⟨p, 0, none⟩ _ (fun _ => rfl)) (fun j _ e => Or.inl e)).trans (Mods.drew (fun _ => False) _) (fun _ _ e => e.elim)

set_option maxHeartbeats 1000000 in
theorem push_new (p : Nat) (v : Value) (bs : List Bool) (b : Bool) (c : Int) (w : World) (h : WriterIn w p v bs) (hb : bs.length < 1125899906842624) (hr : bs.length % 8 = 0)
    (hc : c = (b.toNat : Int)) : Calls Try.prog 39 #[.pointer (some ⟨p, 0, none⟩), .int .u8 c] w fun e w' => e = .returned (.tuple #[]) ∧ PushPost p v bs b w w' := by
  have h0 : w.cell? ⟨p, 0, none⟩ = some (.int .i64 bs.length) := by rw [h.blk.cell]; rfl
  have h1 : w.cell? ⟨p, 1, none⟩ = some v := by rw [h.blk.cell]; rfl
  have hpl := h.blk.lt
  obtain ⟨i0, hi, hz0, hz1, hz2⟩ := info_parts Try.infoU8
  have hmL : (pack bs).length + 1 ≤ maxLen ∧ ((pack bs).length + 1) * 1 ≤ 140737488355328 := by rw [pack_length]; unfold maxLen; omega
  have H := Lib.hid h; clear h
  have hne : ((bs.length : Int) % 8 == 0) = true := by rw [beq_iff_eq]; omega
  have hnn : (bs.length : Int) ≤ 1125899906842624 := by omega
  go_enter Try.func39, Try.ntmps39
  go_wp2_with (at_builtin; refine wpList_app _ rfl _ _ 39 rfl 5 i0 (.int .u8 0) 1 1 Try.underlying39 hi hz0 hz1 hz2 rfl (by decide) _ _ _ rfl (H.out.own.alloc _) ⟨w.heap.size, 0, none⟩ 1 1 [.int .u8 0] rfl rfl ?c1 ?c2 ?c3 ?c4 ?_)
  case c1 => exact news_one _ _ _
  case c2 => intro u hu; simp at hu; subst hu; rfl
  case c3 => exact hmL.1
  case c4 => exact hmL.2
  intro v' w1 hown hmods hfresh
  have hex : ∃ g cap, v' = .slice (some ⟨g, 0, none⟩) ((pack bs).length + 1) cap := by
    rcases owns_cases hown with ⟨_, e, _⟩ | ⟨g, cap, e, _⟩
    · omega
    · exact ⟨g, cap, e⟩
  obtain ⟨g, cap, hv⟩ := hex
  rw [hv]
  rw [hv] at hown hfresh
  clear hv
  have hb1 : Blk w1 p [.int .i64 bs.length, v] := hmods.blk (H.out.blk.alloc _) H.out.ne
  have hmods' : Mods (fun k => v.ownBlock = some k) w w1 := (Mods.alloc _ w _).trans hmods (fun _ _ e => e)
  have hfr : Fresh w.heap.size v (.slice (some ⟨g, 0, none⟩) ((pack bs).length + 1) cap) := fun k hk => by
    rcases hfresh k hk with e | e
    · exact Or.inl e
    · exact Or.inr (by omega)
  have PP := fun y hy => pushed_new (w := w) b H.out hr hb1 hown hmods' hfr y hy
  have hgp : g ≠ p := fun e => by
    rcases hfr g rfl with h1 | h1
    · exact H.out.ne (by rw [h1, e])
    · omega
  have hq : (pack bs).length = bs.length / 8 := by rw [pack_length]; omega
  have j1 : w1.cell? ⟨p, 1, none⟩ = some v := by rw [hb1.cell]; rfl
  have jf : w1.frozen? ⟨p, 1, none⟩ = false := hb1.free 1
  have hb2 := hb1.set 1 (.slice (some ⟨g, 0, none⟩) ((pack bs).length + 1) cap)
  have ho2 := (Mods.set (fun k => k = p) w1 ⟨p, 1, none⟩ (.slice (some ⟨g, 0, none⟩) ((pack bs).length + 1) cap) (fun _ => rfl)).owns hown (fun k hk e => by simp [Value.ownBlock] at hk; omega)
  have k0 : (w1.setCell ⟨p, 1, none⟩ (.slice (some ⟨g, 0, none⟩) ((pack bs).length + 1) cap)).cell? ⟨p, 0, none⟩ = some (.int .i64 bs.length) := by rw [hb2.cell]; rfl
  have k1 : (w1.setCell ⟨p, 1, none⟩ (.slice (some ⟨g, 0, none⟩) ((pack bs).length + 1) cap)).cell? ⟨p, 1, none⟩ = some (.slice (some ⟨g, 0, none⟩) ((pack bs).length + 1) cap) := by rw [hb2.cell]; rfl
  have k2 : (w1.setCell ⟨p, 1, none⟩ (.slice (some ⟨g, 0, none⟩) ((pack bs).length + 1) cap)).cell? ⟨g, bs.length / 8, none⟩ = some (.int .u8 0) := by
    rw [ho2.cellAt _ (by omega), List.getElem?_append_right (by rw [u8s_length]; omega), u8s_length, hq, Nat.sub_self]; rfl
  have f0 : (w1.setCell ⟨p, 1, none⟩ (.slice (some ⟨g, 0, none⟩) ((pack bs).length + 1) cap)).frozen? ⟨p, 0, none⟩ = false := hb2.free 0
  have f2 : (w1.setCell ⟨p, 1, none⟩ (.slice (some ⟨g, 0, none⟩) ((pack bs).length + 1) cap)).frozen? ⟨g, bs.length / 8, none⟩ = false := ho2.frozenAt _
  have hbit : bits BinOp.or IntKind.u8 0 ((b.toNat : Int) * 128 % 256) = ((b.toNat * 128 : Nat) : Int) := by cases b <;> decide +kernel
  have HB := Lib.hid hbit; clear hbit
  have HP := Lib.hid PP; clear PP
  have hmq : bs.length / 8 < (pack bs).length + 1 := by omega
  have Hq := Lib.hid hq; clear hq
  have K0 := Lib.hid k0; have K1 := Lib.hid k1; have K2 := Lib.hid k2; have F0 := Lib.hid f0; have F2 := Lib.hid f2
  clear hown hmods hfresh hmods' hfr hb1 h0 h1 hb2 ho2 k0 k1 k2 f0 f2
  generalize bs.length = n at *
  generalize (pack bs).length + 1 = m at *
  have hlt : (n : Int) / 8 < (m : Int) := by omega
  have hge : 0 ≤ (n : Int) / 8 := by omega
  have hw1 : IntKind.i64.wrap ((n : Int) / 8) = (n : Int) / 8 := IntWalk.i64_in _ (by omega)
  have hd : ((n : Int) / 8).toNat = n / 8 := by omega
  go_wp2_with fail
  generalize w1.setCell ⟨p, 1, none⟩ (.slice (some ⟨g, 0, none⟩) m cap) = w2 at K0 K1 K2 F0 F2 HP ⊢
  have k0 := K0.out; have k1 := K1.out; have k2 := K2.out; have f0 := F0.out; have f2 := F2.out
  clear K0 K1 K2 F0 F2
  go_still_tail 22, (by kernel_rfl)
  still_call (shift_any _ _ (by omega) (by omega))
  repeat still_step
  refine wpStill_nil ?_
  change wpList _ _ _ _ _ w2.drew
  go_wp2
  go_end0
  exact ⟨rfl, HP.out _ HB.out⟩

theorem push_any (p : Nat) (v : Value) (bs : List Bool) (b : Bool) (c : Int) (w : World) (h : WriterIn w p v bs) (hb : bs.length < 1125899906842624)
    (hc : c = (b.toNat : Int)) : Calls Try.prog 39 #[.pointer (some ⟨p, 0, none⟩), .int .u8 c] w fun e w' => e = .returned (.tuple #[]) ∧ PushPost p v bs b w w' := by
  by_cases hr : bs.length % 8 = 0
  · exact push_new p v bs b c w h hb hr hc
  · rcases owns_cases h.own with ⟨_, e, _⟩ | ⟨g, cap, e, _⟩
    · rw [pack_length] at e; omega
    · subst e; exact push_old p g _ cap bs b c w h hb hr hc

end Go.Proofs.Ytpphgmgdmdehpaa
