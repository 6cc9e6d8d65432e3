/- AlivR, AllocN, RdBlk, Alive13, Range, VarintA, PosS, SlB, SyIx, LbEs, RcA, RcB, RcC, in one text. -/
import Derived.Test.YtmnagmbokajfpaaMrg8
import Derived.Test.YtmnagmbokajfpaaMrg1
import Derived.Test.YtmnagmbokajfpaaMrg5
import Derived.RangeFuncNested
import Derived.RangeFuncBound
import Derived.RangeFuncCalls
import Derived.RangeFuncLeaves
import Derived.RangeFuncBox
import Derived.OwnWalkIn
import Derived.Shelf.Abstract
import Derived.TacticsInMore
import Derived.LoopNIn
import Derived.LoopIn
import Derived.Test.YtmnagmbokajfpaaMrg3
import Derived.Test.YtmnagmbokajfpaaMrg2
import Derived.Test.YtmnagmbokajfpaaMrg4
import Derived.Shelf.Spec.SearchS
import Derived.Test.YtmnagmbokajfpaaMrg7
import Derived.StillTailTactics

section
/- Layer 13: the example of the chapter, as lists. No program in sight. -/
set_option linter.unusedVariables false
set_option maxRecDepth 20000
namespace Go.Proofs.Ytmnagmbokajfpaa
open Go Go.RowKit

def chrA : ByteArray := ⟨#[97]⟩
def chrX : ByteArray := ⟨#[120]⟩
def tabA : List ByteArray := [chrA, chrX]
def recA : List Rec := [([(chrA, chrX)], [20])]
theorem lt_ax : ltS chrA chrX = true := by simp [ltS, chrA, chrX, ByteArray.toList_eq, Op.bytesLess]
theorem asc_ax : AscB ltS tabA := by simp [AscB, tabA, lt_ax]
theorem fits_ax : Fits tabA := by
  intro s hs
  simp only [tabA, List.mem_cons, List.not_mem_nil, or_false] at hs
  rcases hs with rfl | rfl <;> decide
theorem idx_a : idxT tabA chrA = 0 := by rw [idxT, findS_at (asc_nodup asc_ax) (n := 0) rfl]; rfl
theorem idx_x : idxT tabA chrX = 1 := by rw [idxT, findS_at (asc_nodup asc_ax) (n := 1) rfl]; rfl
theorem err_ax : recsErr tabA recA = 0 := recsErr_zero.2 fun r hr => by
  simp only [recA, List.mem_singleton] at hr
  subst hr
  refine recErr_zero.2 ⟨fun x hx => ?_, by simp, fun n hn => ?_⟩
  · simp only [List.mem_singleton] at hx; subst hx; exact ⟨by simp [tabA], by simp [tabA]⟩
  · simp only [List.mem_singleton] at hn; subst hn; exact ⟨by decide, by decide⟩
theorem enc_ax : encRcR tabA recA = (0, [1, 1, 0, 1, 1, 20]) := by
  rw [encRcR, if_pos err_ax]
  simp [encRc, recA, recBytes, labsBytes, lensBytes, labBytes, idx_a, idx_x, groups_small]
theorem enc_ax2 : encRc tabA recA = [1, 1, 0, 1, 1, 20] := by have := enc_ax; rw [encRcR, if_pos err_ax] at this; exact (Prod.mk.inj this).2
theorem lens_ax : recLens recA := ⟨by decide, fun r hr => by simp only [recA, List.mem_singleton] at hr; subst hr; exact ⟨by decide, by decide⟩⟩
theorem dec_ax : decRc tabA [1, 1, 0, 1, 1, 20] = (0, recA) := by rw [← enc_ax2]; exact decRc_back asc_ax (by decide) err_ax lens_ax
theorem unused_ax : unusedR tabA recA = -1 := firstI_none fun s hs => by
  simp only [tabA, List.mem_cons, List.not_mem_nil, or_false] at hs
  rcases hs with rfl | rfl <;> simp [usedR, recA, stringsL]
theorem total_ax : totalR recA = 20 := rfl
theorem sized_ax : SizedR recA := fun s hs => by
  simp only [recA, List.mem_singleton] at hs
  subst hs
  exact ⟨fun x hx => by simp only [List.mem_singleton] at hx; subst hx; exact ⟨by decide, by decide⟩, fun n hn => by simp only [List.mem_singleton] at hn; subst hn; exact ⟨by decide, by decide⟩⟩
theorem smallL_ax : SmallL recA := ⟨by decide, by simp [chunksR, recA], fun s hs => by simp only [recA, List.mem_singleton] at hs; subst hs; decide⟩
theorem lenOk_ax : ∀ r ∈ recA, ∀ n ∈ r.2, lenOk n := fun r hr n hn => by
  simp only [recA, List.mem_singleton] at hr
  subst hr
  simp only [List.mem_singleton] at hn
  subst hn
  exact ⟨by decide, by decide⟩
end Go.Proofs.Ytmnagmbokajfpaa

end

section
/- Worlds after literals. No program in sight. -/
set_option linter.unusedVariables false
set_option maxRecDepth 20000
namespace Go.Proofs.Ytmnagmbokajfpaa
open Go Go.RowKit

variable {G : Nat} {T : World → Prop}

theorem alloc_next {w w' : World} {n : Nat} {cs : Array Value} {t : TypeId} (hw : w' = w.alloc (.cells cs t)) (hs : w.heap.size = n) : Blk w' n cs.toList ∧ w'.heap.size = n + 1 ∧ Below w.heap.size w w' := by
  subst hw; subst hs
  exact ⟨Blk.new w cs t, by simp, (Mods.alloc (fun _ => False) w _).below (Nat.le_refl _) (fun _ _ e => e)⟩

theorem Blk.below {w w' : World} {b : Nat} {cs : List Value} (h : Blk w b cs) (hb : Below w.heap.size w w') : Blk w' b cs := h.of_same (hb.block _ h.lt)
end Go.Proofs.Ytmnagmbokajfpaa

end

section
/- A row in a block is a row that is read. No program in sight. -/
set_option linter.unusedVariables false
set_option maxRecDepth 100000
namespace Go.Proofs.Ytmnagmbokajfpaa
open Go Go.RowKit


/-- A whole block, read as a slice. -/
theorem Rd.of_blk {w : World} {b n : Nat} {vs : List Value} {sz : Nat} (h : Blk w b vs) (hl : vs.length = n * sz) (hn : n ≤ maxLen) : Rd w sz (.slice (some ⟨b, 0, none⟩) n n) n vs := by
  refine ⟨_, _, rfl, hl, Nat.le_refl _, hn, (fun e => by cases e), fun ad e j u hu => ?_⟩
  cases e
  have e : (⟨b, 0, none⟩ : Addr).add j = ⟨b, j, none⟩ := by unfold Addr.add; split <;> simp_all
  rw [e, h.cell]
  exact hu
end Go.Proofs.Ytmnagmbokajfpaa

end

section
/- Layer 13: the example of the chapter, over the interface. -/
set_option linter.unusedVariables false
set_option maxRecDepth 20000
namespace Go.Proofs.Ytmnagmbokajfpaa
open Go Go.RowKit
variable {G : Nat} {T : World → Prop}

set_option maxHeartbeats 4000000 in
theorem alive_of13 (I : RcIf G T) (w : World) (hT : T w) : Calls Try.prog 11 #[] w fun e w' => e = .returned (.bool true) ∧ Below w.heap.size w w' := by
  have HT := Lib.hid hT
  clear hT
  go_enter Try.func11, Try.ntmps11
  go_wp2_with fail
  obtain ⟨n, hn⟩ : ∃ n, w.heap.size = n := ⟨_, rfl⟩
  rw [hn]
  obtain ⟨w1, hw1⟩ : ∃ x, x = w.alloc (.cells #[.string ⟨#[97]⟩, .string ⟨#[120]⟩] 9) := ⟨_, rfl⟩
  rw [← hw1]
  obtain ⟨k0, s1, b1⟩ := alloc_next hw1 hn
  obtain ⟨w2, hw2⟩ : ∃ x, x = w1.alloc (.cells #[.string ⟨#[97]⟩, .string ⟨#[120]⟩] 54) := ⟨_, rfl⟩
  rw [← hw2]
  obtain ⟨k1, s2, b2⟩ := alloc_next hw2 s1
  obtain ⟨w3, hw3⟩ : ∃ x, x = w2.alloc (.cells #[.int .i64 20] 3) := ⟨_, rfl⟩
  rw [← hw3]
  obtain ⟨k2, s3, b3⟩ := alloc_next hw3 s2
  obtain ⟨w4, hw4⟩ : ∃ x, x = w3.alloc (.cells #[.slice (some ⟨n + 1, 0, none⟩) 1 1, .slice (some ⟨n + 1 + 1, 0, none⟩) 1 1] 55) := ⟨_, rfl⟩
  rw [← hw4]
  obtain ⟨k3, s4, b4⟩ := alloc_next hw4 s3
  have B4 : Below w.heap.size w w4 := by
    have c2 := b1.trans (b2.mono b1.size)
    have c3 := c2.trans (b3.mono c2.size)
    exact c3.trans (b4.mono c3.size)
  have K0 := ((k0.below b2).below b3).below b4
  have K1 := (k1.below b3).below b4
  have K2 := k2.below b4
  have HTb : Hid (Rd w4 1 (.slice (some ⟨n, 0, none⟩) 2 2) tabA.length (strs tabA)) := Rd.of_blk (n := 2) K0 rfl (by simp [maxLen])
  have HLb : Hid (RdR w4 (.slice (some ⟨n + 1 + 1 + 1, 0, none⟩) 1 1) recA) :=
    ⟨⟨[(.slice (some ⟨n + 1, 0, none⟩) 1 1, .slice (some ⟨n + 1 + 1, 0, none⟩) 1 1)], Rd.of_blk k3 rfl (by simp [maxLen]), rfl, fun i hd s hi hj => by
      cases i with
      | zero =>
        simp [recA] at hi hj
        subst hi; subst hj
        exact ⟨Rd.of_blk (n := 1) K1 rfl (by simp [maxLen]), Rd.of_blk (n := 1) K2 rfl (by simp [maxLen])⟩
      | succ i => simp at hi⟩⟩
  have HB4 := Lib.hid B4
  have HT4 := Lib.hid (I.below HT.out B4)
  have hen := I.encode _ _ tabA recA w4 HT4.out HTb.out (by decide) asc_ax fits_ax HLb.out sized_ax smallL_ax.small (by rw [enc_ax2]; decide)
  rw [enc_ax] at hen
  have HEn := Lib.hid hen
  clear hen B4 K0 K1 K2 k0 k1 k2 k3 s1 s2 s3 s4 b1 b2 b3 b4 hw1 hw2 hw3 hw4 HT hn
  refine HEn.out.mono ?_
  rintro e w5 ⟨⟨r5, rfl, hr5, _⟩, hB⟩
  have HR5 : Hid (Rd w5 1 r5 ([1, 1, 0, 1, 1, 20] : List Nat).length (u8s [1, 1, 0, 1, 1, 20])) := hr5
  have HB5 := Lib.hid (HB4.out.trans (hB.mono HB4.out.size))
  have HT5 := Lib.hid (I.below HT4.out hB)
  have HTb5 := Lib.hid (HTb.out.below hB)
  have HLb5 := Lib.hid (HLb.out.below hB)
  obtain ⟨q2, c2, hv⟩ : ∃ p c, r5 = .slice p 6 c := hr5.shape
  subst hv
  have hde := I.decode _ _ tabA [1, 1, 0, 1, 1, 20] w5 HT5.out HTb5.out (by decide) asc_ax fits_ax HR5.out (by decide) (by decide)
  rw [dec_ax] at hde
  have HDe := Lib.hid hde
  clear hde hr5 hB HEn HT4 HB4 HTb HLb
  go_wp2_with fail
  refine HDe.out.mono ?_
  rintro e w6 ⟨⟨r6, rfl, hr6, _⟩, hB⟩
  obtain ⟨q3, c3, hv⟩ : ∃ p c, r6 = .slice p 1 c := hr6.shape
  subst hv
  have HB6 := Lib.hid (HB5.out.trans (hB.mono HB5.out.size))
  have HT6 := Lib.hid (I.below HT5.out hB)
  have HTb6 := Lib.hid (HTb5.out.below hB)
  have HLb6 := Lib.hid (HLb5.out.below hB)
  have HR6 := Lib.hid (HR5.out.below hB)
  clear hr6 hB HDe HT5 HB5 HTb5 HLb5 HR5
  go_wp2_with fail
  have hbc : Below w6.heap.size w6 (w6.alloc (.cells #[.int .u8 1, .int .u8 1, .int .u8 0, .int .u8 1, .int .u8 1, .int .u8 20] 5)) := (Below.refl _ _).alloc (Nat.le_refl _) _
  have HB7 := Lib.hid (HB6.out.trans (hbc.mono HB6.out.size))
  have HT7 := Lib.hid (I.below HT6.out hbc)
  have HTb7 := Lib.hid (HTb6.out.below hbc)
  have HLb7 := Lib.hid (HLb6.out.below hbc)
  have HR7 := Lib.hid (HR6.out.below hbc)
  have HLt := Lib.hid (lit_rd w6 #[.int .u8 1, .int .u8 1, .int .u8 0, .int .u8 1, .int .u8 1, .int .u8 20] [1, 1, 0, 1, 1, 20] rfl (by decide))
  clear hbc HT6 HB6 HTb6 HLb6 HR6
  generalize w6.alloc (.cells #[.int .u8 1, .int .u8 1, .int .u8 0, .int .u8 1, .int .u8 1, .int .u8 20] 5) = w7 at *
  refine (equal_any _ _ 6 6 [1, 1, 0, 1, 1, 20] [1, 1, 0, 1, 1, 20] w7 HR7.out HLt.out (by decide) (by decide)).mono ?_
  rintro e w8 ⟨rfl, rfl⟩
  rw [decide_eq_true (rfl : ([1, 1, 0, 1, 1, 20] : List Nat) = [1, 1, 0, 1, 1, 20])]
  have hun := I.unused _ _ tabA recA w7 HT7.out HTb7.out (by decide) asc_ax fits_ax HLb7.out sized_ax smallL_ax.small
  rw [unused_ax] at hun
  have HUn := Lib.hid hun
  clear hun HR7 HLt
  go_wp2_with fail
  refine HUn.out.mono ?_
  rintro e w9 ⟨rfl, hB⟩
  have HB9 := Lib.hid (HB7.out.trans (hB.mono HB7.out.size))
  have HT9 := Lib.hid (I.below HT7.out hB)
  have hto := I.total _ recA w9 HT9.out (HLb7.out.below hB) sized_ax smallL_ax lenOk_ax
  rw [total_ax] at hto
  have HTo := Lib.hid hto
  clear hto hB HUn HB7 HT7 HTb7 HLb7
  go_wp2_with fail
  refine HTo.out.mono ?_
  rintro e w10 ⟨rfl, hB⟩
  have HB10 := Lib.hid (HB9.out.trans (hB.mono HB9.out.size))
  go_wp2_with fail
  go_ret
  exact ⟨rfl, HB10.out⟩
end Go.Proofs.Ytmnagmbokajfpaa

end

section
/- A range over a function, at the widest fence. No program in sight. -/
namespace Go.Proofs.Ytmnagmbokajfpaa
open Go Go.RowKit Go.Shelf

/-- In a round an operation that defers nothing is carried out as everywhere. -/
theorem operIn_round {P : Program} {l n : Nat} {o : Oper} {a : Act} {w : World} {next next' : Act → World → Prop} {Q : Exit → Act → World → Prop} (hd : ∀ c, o.op ≠ .defer c) (hn : ∀ a w, next a w → next' a w) (hQ : ¬ LetsOut Q)
    (h : o.wp P a w next Q) : o.wpIn (Fence.wide.inRound l) n P a w next' Q := by
  refine ⟨fun _ _ => trivial, ?_⟩
  show o.uponIn _ n P a next' Q ((o.semAt (some l) a.eval).run P w)
  rw [Oper.semAt_some l a.eval o hd]
  unfold Oper.wp at h
  have hdep : (Fence.wide.inRound l).depth.isSome = true → 1 ≤ n := fun h => by cases h
  revert h
  generalize (execOp a.eval o).run P w = r
  intro h
  cases r with
  | ok v w1 =>
    cases v with
    | value v => exact hn _ _ h
    | skip => exact hn _ _ h
    | defer d => exact hn _ _ h
    | enter f args =>
      refine ⟨hdep, CallsIn.inRound l (callsIn_wide.2 (Calls.mono h ?_))⟩
      intro e w2 h2
      cases e with
      | returned v => exact hn _ _ h2
      | panicked ch => exact h2
      | outgrown => exact absurd h2 hQ
    | row row args =>
      refine ⟨hdep, fun c cs _ => ?_⟩
      obtain ⟨v, w2, h2, s⟩ := h c cs
      exact ⟨v, w2, hn _ _ h2, stepsIn_wide.2 s⟩
    | _ => exact h.elim
  | halt hh w1 =>
    cases hh with
    | panic v => exact h
    | _ => exact h.elim

theorem wpListIn_round {P : Program} {l n : Nat} {ops : Array Oper} {Q : Exit → Act → World → Prop} (hQ : ¬ LetsOut Q) : ∀ (os : List Oper) (a : Act) (w : World), (∀ o ∈ os, ∀ c, o.op ≠ .defer c) →
    wpList P ops Q os a w → wpListIn (Fence.wide.inRound l) n P ops Q os a w
  | [], _, _, _, h => h
  | o :: os, a, w, hd, h => by
    unfold wpListIn
    unfold wpList at h
    split
    · next hw =>
      rw [if_pos hw] at h
      rcases h with h | h
      · exact operIn_round (hd o (by simp)) (fun a w => wpListIn_round hQ os a w (fun o h => hd o (by simp [h]))) hQ h
      · exact absurd h.2 hQ
    · next hw =>
      rw [if_neg hw] at h
      exact ⟨fun _ _ => trivial, wpListIn_round hQ os _ _ (fun o h => hd o (by simp [h])) h⟩

/-! ### What the caller says of its own memory abides the loop's own steps -/
theorem row_other {W : World} {row : Option Nat} {b : Nat} {cs : Array Value} {t : TypeId} {fz : Nat × Nat} (h : W.heap[b]? = some (.cells cs t fz)) (hr : ∀ r, row = some r → ∃ o : Obj, W.heap[r]? = some o ∧ o.isCells = false) : some b ≠ row := fun e => by
  obtain ⟨o, ho, hc⟩ := hr b e.symm
  rw [h] at ho; cases ho; cases hc
theorem own_blk {β : Type} (b : Nat) (f : β → List Value) : Own (fun s W => Blk W b (f s)) := by
  rintro s W W' row ⟨t, h⟩ hg hr
  exact ⟨t, (hg.block b (Array.getElem?_eq_some_iff.1 h).1 (row_other h hr)).trans h⟩
theorem owns_abides {W W' : World} {row : Option Nat} {base : Nat} {e : TypeId} {sz : Nat} {v : Value} {n : Nat} {xs : List Value} (h : W.ownsRow base e sz v n xs) (hg : W.grownBy W' row) (hr : ∀ r, row = some r → ∃ o : Obj, W.heap[r]? = some o ∧ o.isCells = false) : W'.ownsRow base e sz v n xs := by
  refine h.kept hg ?_
  rcases h.2 with ⟨rfl, _⟩ | ⟨g, cap, cur, rfl, _, hgb, _⟩
  · exact .inl rfl
  · exact .inr (fun e => row_other hgb hr e)
theorem ownFrom_mods {β : Type} {B : Nat} {S : Nat → Prop} {w : World} (hB : w.heap.size ≤ B) : OwnFrom B (fun (_ : β) W => Mods S w W) := by
  intro s W W' row h hg hr
  refine ⟨hg.os.trans h.os, hg.tape.trans h.tape, hg.output.trans h.output, Nat.le_trans h.size hg.size, fun k hk hs => ?_⟩
  refine (hg.block k (by have := h.size; omega) (fun e => ?_)).trans (h.block k hk hs)
  have := (hr k e.symm).1
  omega
theorem ownFrom_pure {β : Type} {B : Nat} (p : β → Prop) : OwnFrom B (fun s (_ : World) => p s) := fun _ _ _ _ h _ _ => h
/-- The box holds a row that the call may write, which has come of v. -/
def Holds (e : TypeId) (sz b : Nat) (v : Value) (n : Nat) (xs : List Value) (w W : World) : Prop :=
  ∃ v', Blk W b [v'] ∧ W.ownsRow 0 e sz v' n xs ∧ Fresh w.heap.size v v' ∧ (v'.ownBlock ≠ some b) ∧ Mods (fun k => v.ownBlock = some k) w W
theorem ownFrom_holds {β : Type} {B : Nat} {w : World} (hB : w.heap.size ≤ B) (e : TypeId) (sz b : Nat) (v : Value) (n : β → Nat) (xs : β → List Value) : OwnFrom B (fun s W => Holds e sz b v (n s) (xs s) w W) := by
  rintro s W W' row ⟨v', h1, h2, h3, h4, h5⟩ hg hr
  have hr' : ∀ r, row = some r → ∃ o : Obj, W.heap[r]? = some o ∧ o.isCells = false := fun r e => (hr r e).2
  exact ⟨v', own_blk b (fun _ : Unit => [v']) () W W' row h1 hg hr', owns_abides h2 hg hr', h3, h4, ownFrom_mods hB () W W' row h5 hg hr⟩
theorem KeepsOthers.of_mods {S : Nat → Prop} {W W' : World} (h : Mods S W W') (hS : ∀ k o, S k → W.heap[k]? = some o → o.isCells = true) : KeepsOthers W W' :=
  ⟨h.size, fun k o hk ho => (h.block k (Array.getElem?_eq_some_iff.1 hk).1 (fun e => by rw [hS k o e hk] at ho; cases ho)).trans hk⟩
theorem owns_isCells {W : World} {base : Nat} {e : TypeId} {sz : Nat} {v : Value} {n : Nat} {xs : List Value} (h : W.ownsRow base e sz v n xs) : ∀ k o, v.ownBlock = some k → W.heap[k]? = some o → o.isCells = true := by
  intro k o hk ho
  rcases h.2 with ⟨rfl, _⟩ | ⟨g, cap, cur, rfl, _, hgb, _⟩
  · simp [Value.ownBlock] at hk
  · obtain rfl : g = k := by simpa [Value.ownBlock] using hk
    rw [hgb] at ho; cases ho; rfl
/-- An append in the body of a round: the box holds the longer row. -/
theorem Holds.pushed {e : TypeId} {sz b : Nat} {v v1 v2 : Value} {n m : Nat} {xs ys : List Value} {w W w1 : World} (hb : w.heap.size ≤ b) (h1 : Blk W b [v1]) (h2 : W.ownsRow 0 e sz v1 n xs) (h3 : Fresh w.heap.size v v1) (h4 : v1.ownBlock ≠ some b) (h5 : Mods (fun k => v.ownBlock = some k) w W)
    (k1 : w1.ownsRow 0 e sz v2 m ys) (k2 : Mods (fun k => v1.ownBlock = some k) W w1) (k3 : Fresh W.heap.size v1 v2) :
    Holds e sz b v m ys w (w1.setCell ⟨b, 0, none⟩ v2) ∧ KeepsOthers W (w1.setCell ⟨b, 0, none⟩ v2) := by
  have hne : v2.ownBlock ≠ some b := fun e => by
    rcases k3 b e with e | e
    · exact h4 e
    · have := h1.lt; omega
  refine ⟨⟨v2, ?_, ?_, ?_, hne, ?_⟩, (KeepsOthers.of_mods k2 (owns_isCells h2)).trans (KeepsOthers.setCell _ _ _)⟩
  · simpa using (k2.blk h1 h4).set 0 v2
  · exact (Mods.set (fun k => k = b) w1 ⟨b, 0, none⟩ v2 (fun _ => rfl)).owns k1 (fun k hk e => hne (by rw [hk, e]))
  · exact h3.trans k3 h5.size
  · refine (h5.trans k2 (fun j hj e => ?_)).trans (Mods.set (fun k => k = b) w1 ⟨b, 0, none⟩ v2 (fun _ => rfl)) (fun j hj e => by omega)
    rcases h3 j e with e | e
    · exact e
    · omega
theorem not_letsOut_body {α : Type} {id B : Nat} {Kp : World → World → Prop} {I : List α → World → Prop} {Ix : Code → List α → World → Prop} {xs : List α} {W : World} : ¬ LetsOut (Exit.inBlock id (ownPostG B Kp I Ix xs W)) := by
  rintro ⟨_, _, h⟩; exact h
theorem Mods.putObj {S : Nat → Prop} {w W : World} (h : Mods S w W) {D : Nat} (hD : w.heap.size ≤ D) (o : Obj) : Mods S w (W.putObj D o) := by
  have hg := grownBy_putObj' W D o
  exact ⟨hg.os.trans h.os, hg.tape.trans h.tape, hg.output.trans h.output, Nat.le_trans h.size hg.size, fun k hk hs => (hg.block k (by have := h.size; omega) (fun e => by cases e; omega)).trans (h.block k hk hs)⟩
end Go.Proofs.Ytmnagmbokajfpaa

end

section
/- Layer 2: the function that yields groups; Append. -/
set_option linter.unusedVariables false
namespace Go.Proofs.Ytmnagmbokajfpaa
open Go Go.RowKit Go.Shelf
attribute [local go_sem] Oper.semAt_some

theorem new_groups (x : Nat) (w : World) (n : Nat) :
    CallsIn Fence.wide n Try.prog 43 #[.int .u64 x] w fun e w' => e = .returned (.func (.func 59) #[] #[.pointer (some ⟨w.heap.size, 0, none⟩)]) ∧ w' = w.alloc (.cells #[.int .u64 x] 59) := by
  refine callsIn_wide.2 ?_
  go_enter Try.func43, Try.ntmps43
  go_wp2
  go_ret
  exact ⟨rfl, rfl⟩

set_option maxRecDepth 100000 in
set_option maxHeartbeats 1000000 in
theorem groups_gives (n : Nat) (hn : 1 ≤ n) (b x : Nat) (hx : x < 18446744073709551616) (w : World) (hb : b < w.heap.size) (hc : w.cell? ⟨b, 0, none⟩ = some (.int .u64 x)) :
    SeqStopsK Fence.wide n Try.prog 59 #[.pointer (some ⟨b, 0, none⟩)] (fun c : Nat => #[.int .u8 (c : Int)]) KeepsWalks (fun ys => ys = groups x) (fun _ => True) (groups x).length w := by
  intro l J Jx W hW hJ hJx hY h0
  have hc' : W.cell? ⟨b, 0, none⟩ = some (.int .u64 x) := (hW.cell (p := ⟨b, 0, none⟩) hb).trans hc
  refine callsIn_of_wp Try.func59 rfl trivial ?_ rfl
  simp only [Try.ntmps59, List.size_toArray, List.length_cons, List.length_nil, Nat.reduceAdd, Nat.reduceSub, Array.replicate_succ, Array.replicate_zero, List.push_toArray, List.append_toArray, List.nil_append, List.cons_append]
  gi_wp2
  gi_loopw [3] (fun r wr => ∃ (pre : List Nat) (y : Nat), y < 18446744073709551616 ∧ r = .int .u64 y ∧ groups x = pre ++ groups y ∧ J pre wr) (fun r _ => (intOf r).toNat)
  case atStart => exact ⟨[], x, hx, rfl, rfl, h0⟩
  case round =>
    obtain ⟨pre, y, hy, rfl, hg, hJs⟩ := hrel
    by_cases h : y < 128
    · have hlt : (y : Int) < 128 := by omega
      obtain ⟨fn, tmps, assign, body, hyl, hR⟩ := hY pre y wr hJs (by rw [hg, groups_small h]; simp)
      rw [groups_small h] at hg
      gi_wp2
      refine hR.mono ?_
      rintro e W3 (⟨rfl, hJ3, hk3⟩ | ⟨rfl, hJx3⟩)
      · gi_wp2
        go_end0
        exact ⟨⟨_, rfl⟩, .inl ⟨_, hg.symm, hJ3⟩⟩
      · gi_wp2
        go_end0
        exact ⟨⟨_, rfl⟩, .inr ⟨_, trivial, hJx3⟩⟩
    · have hlt : ¬ (y : Int) < 128 := by omega
      obtain ⟨fn, tmps, assign, body, hyl, hR⟩ := hY pre (y % 128 + 128) wr hJs (by rw [hg, groups_big h]; simp)
      rw [show ((y % 128 + 128 : Nat) : Int) = (y : Int) % 128 + 128 from by omega] at hyl
      rw [groups_big h] at hg
      gi_wp2
      refine hR.mono ?_
      rintro e W3 (⟨rfl, hJ3, hk3⟩ | ⟨rfl, hJx3⟩)
      · gi_wp2
        go_roundw
        case rel => exact ⟨pre ++ [y % 128 + 128], y / 128, by omega, by go_num, by rw [hg]; simp, hJ3⟩
        case measure => simp [intOf]; omega
      · gi_wp2
        refine bodyPost_ret (results_none rfl _ _ _) rfl ?_
        exact ⟨⟨_, rfl⟩, .inr ⟨_, trivial, hJx3⟩⟩

/-- What an append to a row of bytes leaves behind. -/
structure AppPost (v : Value) (n : Nat) (out : List Nat) (w : World) (v' : Value) (w' : World) : Prop where
  own : w'.ownsRow 0 5 1 v' n (u8s out)
  mods : Mods (fun k => v.ownBlock = some k) w w'
  fresh : Fresh w.heap.size v v'

/-- What an append to a row that the call has made leaves behind. -/
theorem AppPost.below {v : Value} {n : Nat} {out : List Nat} {w : World} {v' : Value} {w' : World} (h : AppPost v n out w v' w') {B : Nat} (hB : B ≤ w.heap.size) (hv : ∀ k, v.ownBlock = some k → B ≤ k) : Below B w w' :=
  h.mods.below hB (fun k hk e => by have := hv k e; omega)
theorem AppPost.made {v : Value} {n : Nat} {out : List Nat} {w : World} {v' : Value} {w' : World} (h : AppPost v n out w v' w') {B : Nat} (hB : B ≤ w.heap.size) (hv : ∀ k, v.ownBlock = some k → B ≤ k) : w'.ownsRow B 5 1 v' n (u8s out) :=
  owns_rebase h.own (fun k hk => by
    rcases h.fresh k hk with e | e
    · exact hv k e
    · omega)
theorem nil_block {B : Nat} : ∀ k, (Value.slice none 0 0).ownBlock = some k → B ≤ k := fun k e => by simp [Value.ownBlock] at e

set_option maxRecDepth 100000 in
set_option maxHeartbeats 1000000 in
theorem append_any (v : Value) (n : Nat) (l : List Nat) (x : Nat) (hx : x < 18446744073709551616) (w : World) (h : w.ownsRow 0 5 1 v n (u8s l)) (hn : n + 10 ≤ 140737488355328) :
    Calls Try.prog 25 #[v, .int .u64 x] w fun e w' => ∃ v', e = .returned v' ∧ AppPost v (n + (groups x).length) (l ++ groups x) w v' w' := by
  have hten := groups_ten hx
  obtain ⟨p, c, hv⟩ := (Rd.of_owns h).shape
  subst hv
  refine (callsIn_wide (n := 9)).1 ?_
  refine callsIn_of_wp_marks Try.func25 rfl trivial ?_ rfl
  simp only [Try.ntmps25, List.size_toArray, List.length_cons, List.length_nil, Nat.reduceAdd, Nat.reduceSub, Array.replicate_succ, Array.replicate_zero, List.push_toArray, List.append_toArray, List.nil_append, List.cons_append]
  have H := Lib.hid h; clear h
  gi_wp2_with (refine ⟨trivial, ?_⟩; gi_at_call 43; refine (new_groups x _ _).mono ?_; rintro e w' ⟨rfl, rfl⟩)
  obtain ⟨W0, hW0⟩ : ∃ W0, (w.alloc (.cells #[.slice p n c] 30)).alloc (.cells #[.int .u64 x] 59) = W0 := ⟨_, rfl⟩
  have hs0 : W0.heap.size = w.heap.size + 2 := by rw [← hW0]; simp
  have hx0 : W0.cell? ⟨w.heap.size + 1, 0, none⟩ = some (.int .u64 x) := by
    have := (Blk.new (w.alloc (.cells #[.slice p n c] 30)) #[.int .u64 x] 59).cell 0
    rw [hW0] at this
    simpa using this
  have hI0 : Holds 5 1 w.heap.size (.slice p n c) (n + 0) (u8s (l ++ [])) w W0 := by
    have hm : Mods (fun k => (Value.slice p n c).ownBlock = some k) w W0 := by rw [← hW0]; exact (Mods.alloc _ _ _).trans (Mods.alloc (fun _ => False) _ _) (fun _ _ e => e.elim)
    refine ⟨_, ?_, ?_, Fresh.refl _ _, fun e => by have := owns_lt H.out _ e; omega, hm⟩
    · rw [← hW0]; exact (Blk.new w _ _).alloc _
    · rw [← hW0, List.append_nil]; exact (H.out.alloc _).alloc _
  rw [hW0]
  clear hW0
  refine wpIn_rangeFunc_ownG rfl (by omega) (gf := 59) (lb := #[.pointer (some ⟨w.heap.size + 1, 0, none⟩)]) rfl trivial (enters_of Try.func59 (by kernel_rfl) rfl)
    (groups_gives _ (by omega) (w.heap.size + 1) x hx W0 (by omega) hx0) walksK_t walksK_b (Below.refl _ _) (fun _ => rfl)
    (fun pre W => Holds 5 1 w.heap.size (.slice p n c) (n + pre.length) (u8s (l ++ pre)) w W)
    (fun _ _ _ => False)
    (ownFrom_holds (by omega) _ _ _ _ _ _)
    (fun _ _ _ _ _ hs _ _ => hs)
    hI0
    (fun k => { tmps := #[.slice p n c, .int .u64 x, .pointer (some ⟨w.heap.size, 0, none⟩), undef, .slice none 0 0, .int .u8 (k : Int), .int .u64 x, .func (.func 59) #[] #[.pointer (some ⟨w.heap.size + 1, 0, none⟩)], .int .u8 (k : Int), undef, undef, undef, undef, undef], defers := [] }) ?assign ?body ?done ?stop
  case assign =>
    intro l k W K hK
    simp only [List.zip_toArray, List.zip_cons_cons, List.zip_nil_right, List.foldl_toArray, List.foldl_cons, List.foldl_nil, List.setIfInBounds_toArray, List.set_cons_zero, List.set_cons_succ]
    gi_wp2
    exact hK
  case body =>
    rintro r pre k W ⟨v1, h1, h2, h3, h4, h5⟩ hlen
    have c0 : W.cell? ⟨w.heap.size, 0, none⟩ = some v1 := by rw [h1.cell]; rfl
    have f0 := h1.free 0
    have hb : (n + pre.length + 1) * 1 ≤ 140737488355328 ∧ n + pre.length + 1 ≤ maxLen := by unfold maxLen; omega
    have H2 := Lib.hid h2; have HB := Lib.hid hb
    obtain ⟨p1, c1, hv1⟩ := (Rd.of_owns h2).shape
    subst hv1
    clear h2 hb
    refine wpIn_block ?_
    refine wpIn_region_list ?_
    refine wpListIn_round not_letsOut_body _ _ _ (by simp) ?_
    go_wp2_with (at_builtin; refine wpList_push Try.elemU8 W #[.int .u8 (k : Int)] _ _ _ H2.out rfl (one_cell _ rfl) HB.out rfl _ _ rfl rfl rfl ?_)
    intro v2 w1 k1 k2 k3
    obtain ⟨q1, q2⟩ := Holds.pushed (Nat.le_refl _) h1 H2.out h3 h4 h5 k1 k2 k3
    have b1 := k2.blk h1 h4
    have c1' : w1.cell? ⟨w.heap.size, 0, none⟩ = some (.slice p1 (n + pre.length) c1) := by rw [b1.cell]; rfl
    have f1' := b1.free 0
    obtain ⟨p2, c2, hv2⟩ := (Rd.of_owns k1).shape
    subst hv2
    have Q1 := Lib.hid q1; have Q2 := Lib.hid q2
    clear k1 k2 k3 q1 q2
    go_wp2
    refine ⟨Q2.out.from _, Q2.out.walks, ?_⟩
    have q := Q1.out
    simpa [u8s, Nat.add_assoc] using q
  case done =>
    rintro D ys W hD rfl ⟨v1, h1, h2, h3, h4, h5⟩ hK
    have c0 : W.cell? ⟨w.heap.size, 0, none⟩ = some v1 := by rw [h1.cell]; rfl
    obtain ⟨p1, c1, hv1⟩ := (Rd.of_owns h2).shape
    subst hv1
    have H2 := Lib.hid h2; clear h2
    gi_wp2
    refine ⟨by simp, .inl ⟨_, _, rfl, run_takeDeferred hK, ?_⟩⟩
    refine ⟨_, results_tmp rfl _ _ _, ?_⟩
    exact ⟨.slice p1 (n + (groups x).length) c1, rfl, ⟨ownsRow_putObj H2.out _ hK rfl, h5.putObj (by omega) _, h3⟩⟩
  case stop =>
    rintro D c pre W _ _ h _
    exact h.elim
end Go.Proofs.Ytmnagmbokajfpaa

end

section
/- Where a search in a list of strings ends. No program in sight. -/
set_option linter.unusedVariables false
namespace Go.Proofs.Ytmnagmbokajfpaa
open Go Go.RowKit Go.Lib

/-- Element j of a list; s behind it. -/
def atOr (t : List ByteArray) (s : ByteArray) (j : Nat) : ByteArray := (t[j]?).getD s

/-- Where the search for s in t ends. -/
def posS (t : List ByteArray) (s : ByteArray) : Nat := t.findIdx (fun a => !ltS a s)

theorem posS_le (t : List ByteArray) (s : ByteArray) : posS t s ≤ t.length := List.findIdx_le_length

theorem posS_low {t : List ByteArray} {s : ByteArray} (j : Nat) (h : j < posS t s) : ltS (atOr t s j) s = true := by
  have hl := posS_le t s
  rw [atOr, List.getElem?_eq_getElem (by omega), Option.getD_some]
  have := List.not_of_lt_findIdx h
  simpa using this

theorem posS_high {t : List ByteArray} (ha : AscB ltS t) {s : ByteArray} (j : Nat) (h : posS t s ≤ j) : ltS (atOr t s j) s = false := by
  by_cases hj : j < t.length
  · rw [atOr, List.getElem?_eq_getElem hj, Option.getD_some]
    have hk : posS t s < t.length := by omega
    have h1 : ltS t[posS t s] s = false := by
      have h0 : (!ltS t[posS t s] s) = true := List.findIdx_getElem (w := hk)
      simpa using h0
    rcases Nat.lt_or_eq_of_le h with e | e
    · have h2 := ascB_get ha e hj
      rcases Bool.eq_false_or_eq_true (ltS t[j] s) with f | f
      · rw [ltS_ok.tr _ _ _ h2 f] at h1; cases h1
      · exact f
    · simp only [← e]; exact h1
  · rw [atOr, List.getElem?_eq_none (by omega)]
    exact ltS_ok.irr s
end Go.Proofs.Ytmnagmbokajfpaa

end

section
/- Lists of strings: BinarySearch of the library, by the contract of the shelf, laid by hand. -/
set_option linter.unusedVariables false
set_option maxRecDepth 20000
namespace Go.Proofs.Ytmnagmbokajfpaa
open Go Go.RowKit

def renSearchS : Go.Shelf.Ren := ⟨fun | 26 => 58 | 33 => 63 | 34 => 64 | 38 => 68 | n => n, fun | 0 => 0 | 3 => 3 | 4 => 4 | 9 => 9 | 24 => 22 | 40 => 104 | n => n, fun n => n⟩

theorem laysSearchS : Go.Proofs.Lays2.n26 Try.prog renSearchS := { mixed := by kernel_rfl, f26 := Try.func58.trans (congrArg some (by kernel_rfl)), f33 := Try.func63.trans (congrArg some (by kernel_rfl)), f34 := Try.func64.trans (congrArg some (by kernel_rfl)), f38 := Try.func68.trans (congrArg some (by kernel_rfl)), t0 := Try.underlying0, a0 := Try.isAgg0, z0 := Try.sizeOf0, v0 := Try.zeroValue0, t3 := Try.underlying3, a3 := Try.isAgg3, z3 := Try.sizeOf3, v3 := Try.zeroValue3, t4 := Try.underlying4, a4 := Try.isAgg4, z4 := Try.sizeOf4, v4 := Try.zeroValue4, t9 := Try.underlying9, a9 := Try.isAgg9, z9 := Try.sizeOf9, v9 := Try.zeroValue9, t24 := Try.underlying22, a24 := Try.isAgg22, z24 := Try.sizeOf22, v24 := Try.zeroValue22, t40 := Try.underlying104, a40 := Try.isAgg104, z40 := Try.sizeOf104, v40 := Try.zeroValue104 }

theorem search_row (tv : Value) (t : List ByteArray) (s : ByteArray) (w : World) (h : Rd w 1 tv t.length (strs t)) (hn : t.length ≤ 1000000) (ha : AscB ltS t) :
    Calls Try.prog 58 #[tv, .string s] w fun e w' => ∃ k : Nat, e = .returned (.tuple #[.int .i64 (k : Int), .bool (decide (0 ≤ findS t s))]) ∧ (0 ≤ findS t s → (k : Int) = findS t s) ∧ ∃ q, w' = w.drewN q := by
  by_cases h0 : t = []
  · subst h0
    obtain ⟨p, c, hv⟩ := h.shape
    subst hv
    refine (Any2.slices_BinarySearch_string_empty laysSearchS p c s w).mono ?_
    rintro e w' ⟨rfl, rfl⟩
    exact ⟨0, rfl, (fun h => absurd (show (0 : Int) ≤ -1 from h) (by decide)), 0, rfl⟩
  · obtain ⟨b, off, c, rfl, _, _, hc⟩ := h.at (fun e => h0 (by have := congrArg List.length e; rw [strs_length] at this; exact List.eq_nil_of_length_eq_zero this))
    have h1 := Any2.slices_BinarySearch_string laysSearchS b off t.length c (atOr t s) s w (by omega) (fun j hj => hc j _ (by rw [strs, List.getElem?_map, List.getElem?_eq_getElem hj, atOr, List.getElem?_eq_getElem hj]; rfl))
    have hk : Lib.bsGo (fun j => Op.bytesLess (atOr t s j).toList s.toList) t.length 0 t.length = posS t s :=
      Lib.bsGo_spec _ _ (fun j hj => posS_low j hj) (fun j hj => posS_high ha j hj) _ _ _ (by omega) (by omega) (posS_le t s)
    rw [hk] at h1
    refine h1.mono ?_
    rintro e w' ⟨rfl, q, rfl⟩
    by_cases hf : posS t s < t.length ∧ atOr t s (posS t s) = s
    · obtain ⟨hf1, hf2⟩ := hf
      rw [atOr, List.getElem?_eq_getElem hf1, Option.getD_some] at hf2
      have hF : findS t s = (posS t s : Int) := firstI_at (fun y hy => by
        obtain ⟨j, hj, he⟩ := List.getElem_of_mem hy
        rw [List.length_take] at hj
        rw [List.getElem_take] at he
        have := posS_low (t := t) (s := s) j (by omega)
        rw [atOr, List.getElem?_eq_getElem (by omega), Option.getD_some, he] at this
        rw [decide_eq_false]
        intro e
        rw [e, ltS_ok.irr] at this
        cases this) (by rw [List.getElem?_eq_getElem hf1]) (by rw [hf2]; simp)
      rw [hF]
      refine ⟨posS t s, ?_, fun _ => rfl, q, rfl⟩
      rw [decide_eq_true (show posS t s < t.length ∧ atOr t s (posS t s) = s from ⟨hf1, by rw [atOr, List.getElem?_eq_getElem hf1]; exact hf2⟩), decide_eq_true (by omega)]
    · have hF : findS t s = -1 := firstI_none (fun y hy => by
        rw [decide_eq_false]
        intro e
        subst e
        obtain ⟨j, hj, he⟩ := List.getElem_of_mem hy
        have hj1 : posS t y ≤ j := by
          rcases Nat.lt_or_ge j (posS t y) with hlt | hge
          · have := posS_low (t := t) (s := y) j hlt
            rw [atOr, List.getElem?_eq_getElem hj, Option.getD_some, he, ltS_ok.irr] at this
            cases this
          · exact hge
        have hk2 : posS t y < t.length := by omega
        refine hf ⟨hk2, ?_⟩
        rcases Nat.lt_or_eq_of_le hj1 with e | e
        · have h2 := ascB_get ha e hj
          have h3 := posS_high ha (s := y) (posS t y) (Nat.le_refl _)
          rw [atOr, List.getElem?_eq_getElem hk2, Option.getD_some] at h3
          rw [he, h3] at h2
          cases h2
        · rw [atOr, List.getElem?_eq_getElem hk2, Option.getD_some]
          simp only [e]
          exact he)
      rw [hF]
      exact ⟨posS t s, by rw [decide_eq_false hf]; rfl, fun h => absurd h (by decide), q, rfl⟩
end Go.Proofs.Ytmnagmbokajfpaa

end

section
/- Layer 10: Index of a table. -/
set_option linter.unusedVariables false
set_option maxRecDepth 20000
namespace Go.Proofs.Ytmnagmbokajfpaa
open Go Go.RowKit

theorem index_met (tv : Value) (t : List ByteArray) (s : ByteArray) (w : World) (h : Rd w 1 tv t.length (strs t)) (hn : t.length ≤ 1000000) (ha : AscB ltS t) :
    Calls Try.prog 41 #[tv, .string s] w fun e w' => e = .returned (.tuple #[.int .i64 (max (findS t s) 0), .bool (decide (0 ≤ findS t s))]) ∧ Below w.heap.size w w' := by
  have HS := Lib.hid (search_row tv t s w h hn ha)
  obtain ⟨p, c, hv⟩ := h.shape
  subst hv
  clear h ha
  by_cases hf : 0 ≤ findS t s
  · have hd : decide (0 ≤ findS t s) = true := decide_eq_true hf
    have HMx : Hid (max (findS t s) 0 = findS t s) := Int.max_eq_left hf
    have HF := Lib.hid hf
    rw [HMx.out, hd]
    rw [hd] at HS
    clear hf hd HMx
    go_enter Try.func41, Try.ntmps41
    go_wp2_with fail
    refine HS.out.mono ?_
    rintro e w1 ⟨k, rfl, hk, q, rfl⟩
    have HK := Lib.hid (hk HF.out)
    clear hk HS
    go_wp2_with fail
    go_ret2
    exact ⟨by rw [HK.out]; rfl, rfl, rfl, rfl, Nat.le_refl _, fun _ _ => rfl⟩
  · have hd : decide (0 ≤ findS t s) = false := decide_eq_false hf
    have HMx : Hid (max (findS t s) 0 = 0) := Int.max_eq_right (by omega)
    rw [HMx.out, hd]
    rw [hd] at HS
    clear hf hd HMx
    go_enter Try.func41, Try.ntmps41
    go_wp2_with fail
    refine HS.out.mono ?_
    rintro e w1 ⟨k, rfl, hk, q, rfl⟩
    clear hk HS
    go_wp2_with fail
    go_ret2
    exact ⟨rfl, rfl, rfl, rfl, Nat.le_refl _, fun _ _ => rfl⟩
end Go.Proofs.Ytmnagmbokajfpaa

end

section
/- Layer 11, the program's own: Strings. -/
set_option linter.unusedVariables false
set_option maxRecDepth 20000
namespace Go.Proofs.Ytmnagmbokajfpaa
open Go Go.RowKit

set_option maxHeartbeats 2000000 in
theorem labStrings_any (lv : Value) (l : List Lab) (w : World) (hl : Rd w 2 lv l.length (labCells l)) (hn : l.length ≤ 1000000) :
    Calls Try.prog 40 #[lv] w fun e w' => ∃ r, e = .returned r ∧ Own1 9 Value.string w w' (stringsL l) r := by
  have HL := Lib.hid hl
  obtain ⟨pl, cl, hv⟩ := hl.shape
  subst hv
  have hmx : (l.length : Int) ≤ 1000000 := by omega
  clear hl hn
  go_enter Try.func40, Try.ntmps40
  go_wp2_with fail
  go_loopw [3, 8] (fun vv iv wr => ∃ (i : Nat), i ≤ l.length ∧ iv = .int .i64 (i : Int) ∧ Hid (Own1 9 Value.string w wr (stringsL (l.take i)) vv)) (fun _ iv _ => l.length - (intOf iv).toNat)
  case atStart => exact ⟨0, Nat.zero_le _, rfl, Own1.nil w⟩
  case round =>
    obtain ⟨i, hi, rfl, HO⟩ := hrel
    have him : (i : Int) ≤ 1000000 := by omega
    by_cases hlt : i < l.length
    · have hlt' : (i : Int) < (l.length : Int) := by omega
      obtain ⟨⟨yn, yv⟩, hx⟩ : ∃ x, l[i]? = some x := ⟨_, List.getElem?_eq_getElem hlt⟩
      obtain ⟨b, off, e⟩ := rd2_at HL.out hx
      subst e
      obtain ⟨c0, c1⟩ := rd2_cell (HL.out.below HO.out.bel) hx
      have HSt := Lib.hid (stringsL_step hx)
      have hl1 : (stringsL (l.take i)).length ≤ 2000000 := by rw [stringsL_len, List.length_take]; omega
      have HXx := Lib.hid hx
      clear hx
      obtain ⟨pv, cv, hvv⟩ := HO.out.shape
      subst hvv
      have HBd : Hid (((stringsL (l.take i)).length + 2) * 16 ≤ 140737488355328 ∧ (stringsL (l.take i)).length + 2 ≤ maxLen) := by show _ ∧ _; unfold maxLen; omega
      clear hl1
      have HA := Lib.hid (HO.out.below (((Below.refl _ wr).alloc (Nat.le_refl _) (.cells #[.string yn, .string yv] 54))))
      generalize stringsL (l.take i) = acc at *
      obtain ⟨w1, hw1⟩ : ∃ w1, w1 = wr.alloc (.cells #[.string yn, .string yv] 54) := ⟨_, rfl⟩
      have HS1 : Hid (w1.heap.size = wr.heap.size + 1) := by show _ = _; rw [hw1]; simp
      rw [← hw1] at HA
      have HO2 : Hid (Own1 9 Value.string w (w1.alloc (.cells #[.string yn, .string yv] 9)) acc (.slice pv acc.length cv)) := HA.out.below ((Below.refl _ w1).alloc (Nat.le_refl _) _)
      have hlit := Rd.of_owns (World.ownsRow_lit (base := 0) w1 #[.string yn, .string yv] 2 (Nat.zero_le _) (by simp [maxLen]) (by simp) (e := 9) (size := 1))
      rw [HS1.out] at hlit
      rw [hw1] at hlit HO2
      have HLit := Lib.hid hlit
      have HOb := Lib.hid HO2.out.base0
      clear hlit HS1 HA hw1 w1
      go_wp2_with (refine wpList_extend Try.elemStr _ _ _ _ _ _ _ HOb.out HLit.out (strs_one [yn, yv]) HBd.out rfl _ _ rfl rfl rfl ?_)
      intro v3 w3 k1 k2 k3
      have HO4 : Hid (Own1 9 Value.string w w3 (stringsL (l.take (i + 1))) v3) := by show Own1 _ _ _ _ _ _; rw [HSt.out]; exact HO2.out.extended (e := [yn, yv]) k1 k2 (by simpa using k3)
      obtain ⟨p3, c3, hv3⟩ : ∃ p c, v3 = .slice p (acc.length + 2) c := (Rd.of_owns k1).shape
      subst hv3
      clear k1 k2 k3 HOb HLit HO2
      go_wp2_with fail
      go_round
      case rel => exact ⟨i + 1, by omega, by go_num, HO4.out⟩
      case measure => simp [intOf]; omega
    · have hlt' : ¬ (i : Int) < (l.length : Int) := by omega
      rw [List.take_of_length_le (by omega)] at HO
      obtain ⟨pv, cv, hvv⟩ := HO.out.shape
      subst hvv
      go_wp2_with fail
      go_ret
      exact ⟨_, rfl, HO.out⟩
end Go.Proofs.Ytmnagmbokajfpaa

end

section
/- Layer 13, the program's own: a number appended; which lengths are permitted; appendLabels, appendLengths. -/
set_option linter.unusedVariables false
set_option maxRecDepth 20000
namespace Go.Proofs.Ytmnagmbokajfpaa
open Go Go.RowKit

/-- What appending leaves: the row that was written to, or a new one. -/
structure ApAt (w0 : World) (v0 : Value) (w1 : World) (v1 : Value) : Prop where
  mods : Mods (fun k => v0.ownBlock = some k) w0 w1
  fresh : Fresh w0.heap.size v0 v1
theorem ApAt.refl (w : World) (v : Value) : ApAt w v w v := ⟨Mods.refl _ _, Fresh.refl _ _⟩
theorem ApAt.step {w0 w1 w2 : World} {v0 v1 v2 : Value} (h : ApAt w0 v0 w1 v1) (m : Mods (fun k => v1.ownBlock = some k) w1 w2) (f : Fresh w1.heap.size v1 v2) : ApAt w0 v0 w2 v2 :=
  ⟨h.mods.trans m (fun j hj e => by rcases h.fresh j e with e | e <;> first | exact e | omega), h.fresh.trans f h.mods.size⟩
theorem ApAt.below {w0 w1 w2 : World} {v0 v1 : Value} (h : ApAt w0 v0 w1 v1) (hb : Below w1.heap.size w1 w2) : ApAt w0 v0 w2 v1 :=
  h.step (Mods.of_below hb _) (Fresh.refl _ _)

theorem var_append13 (w wr : World) (L : List Nat) (v : Value) (n : Nat) (h : OwnB w wr L v) (hn : n < 18446744073709551616) (hL : L.length ≤ 1000000000) :
    Calls Try.prog 25 #[v, .int .u64 (n : Int)] wr fun en w' => ∃ r, en = .returned r ∧ OwnB w w' (L ++ groups n) r ∧ ApAt wr v w' r := by
  refine (append_any v L.length L n hn wr h.base0 (by omega)).mono ?_
  rintro en w' ⟨r, rfl, hP⟩
  refine ⟨r, rfl, h.extended (e := groups n) ?_ hP.mods hP.fresh, hP.mods, hP.fresh⟩
  have := hP.own
  rw [u8s_append] at this
  exact this

theorem is_len_int (n : Int) (w : World) : Calls Try.prog 44 #[.int .i64 n] w fun en w' => en = .returned (.bool (decide (lenOk n))) ∧ w' = w := by
  by_cases h1 : 1 ≤ n
  · by_cases h2 : n ≤ 2147483647
    · have HD : Hid (decide (lenOk n) = true) := decide_eq_true ⟨h1, h2⟩
      go_enter Try.func44, Try.ntmps44
      go_wp2_with fail
      go_ret
      exact ⟨by rw [HD.out]; rfl, rfl⟩
    · have HD : Hid (decide (lenOk n) = false) := decide_eq_false (fun h => h2 h.2)
      go_enter Try.func44, Try.ntmps44
      go_wp2_with fail
      go_ret
      exact ⟨by rw [HD.out]; rfl, rfl⟩
  · have HD : Hid (decide (lenOk n) = false) := decide_eq_false (fun h => h1 h.1)
    go_enter Try.func44, Try.ntmps44
    go_wp2_with fail
    go_ret
    exact ⟨by rw [HD.out]; rfl, rfl⟩
end Go.Proofs.Ytmnagmbokajfpaa

end

section
/- Layer 13, the program's own: appendLabels. -/
set_option linter.unusedVariables false
set_option maxRecDepth 20000
namespace Go.Proofs.Ytmnagmbokajfpaa
open Go Go.RowKit

/-- What appendLabels gives. -/
def LabsPut (w : World) (t : List ByteArray) (E0 : List Nat) (labs : List Lab) (en : Ending) (w' : World) : Prop :=
  (∃ r, en = .returned (.tuple #[r, .int .i64 0]) ∧ (∀ x ∈ labs, labIn t x) ∧ OwnB w w' (E0 ++ groups labs.length ++ symsBytes t (stringsL labs)) r) ∨
  (en = .returned (.tuple #[.slice none 0 0, .int .i64 14]) ∧ (¬ ∀ x ∈ labs, labIn t x) ∧ Below w.heap.size w w')

set_option maxHeartbeats 16000000 in
theorem app_labels (w wi : World) (E0 : List Nat) (v tv lv : Value) (t : List ByteArray) (labs : List Lab) (h : OwnB w wi E0 v) (ht : Rd w 1 tv t.length (strs t)) (htn : t.length ≤ 1000000) (hta : AscB ltS t) (hl : Rd w 2 lv labs.length (labCells labs)) (hln : labs.length ≤ 1000000)
    (hE : E0.length + (groups labs.length).length + (symsBytes t (stringsL labs)).length ≤ 1000000000) :
    Calls Try.prog 26 #[v, tv, lv] wi fun en w' => Mods (fun k => v.ownBlock = some k) wi w' ∧ LabsPut w t E0 labs en w' := by
  have HO := Lib.hid h; have HT := Lib.hid ht; have HTn := Lib.hid htn; have HTa := Lib.hid hta; have HL := Lib.hid hl; have HLn := Lib.hid hln; have HEn := Lib.hid hE
  obtain ⟨pv, cv, hv⟩ := h.shape
  subst hv
  obtain ⟨pt, ct, hv⟩ := ht.shape
  subst hv
  obtain ⟨pl, cl, hv⟩ := hl.shape
  subst hv
  have hlm : (labs.length : Int) ≤ 1000000 := by omega
  have hw : IntKind.u64.wrap (labs.length : Int) = (labs.length : Int) := by rw [IntKind.wrap_u64]; omega
  clear h ht htn hta hl hln hE
  go_enter Try.func26, Try.ntmps26
  go_wp2_with fail
  refine (var_append13 w wi E0 _ labs.length HO.out (by omega) (by have := HEn.out; omega)).mono ?_
  rintro en w1 ⟨r1, rfl, hO, hA⟩
  obtain ⟨L1, hL1⟩ : ∃ L1, E0 ++ groups labs.length = L1 := ⟨_, rfl⟩
  have HL1 := Lib.hid hL1
  rw [hL1] at hO
  have HO1 := Lib.hid hO; have HA1 := Lib.hid hA
  have hL1n : Hid (L1.length = E0.length + (groups labs.length).length) := by show _ = _; rw [← hL1, List.length_append]
  obtain ⟨p1, c1, hv1⟩ := hO.shape
  subst hv1
  have HSr := Lib.hid (labStrings_any (.slice pl labs.length cl) labs w1 (HL.out.below HO1.out.bel) HLn.out)
  clear hO hA HO hL1
  go_wp2_with fail
  refine HSr.out.mono ?_
  rintro en w2 ⟨sv, rfl, hS⟩
  obtain ⟨S, hSe⟩ : ∃ S, stringsL labs = S := ⟨_, rfl⟩
  have HSe := Lib.hid hSe
  rw [hSe] at hS HEn
  have HO2 := Lib.hid (HO1.out.below hS.bel)
  have HA2 := Lib.hid (HA1.out.below hS.bel)
  obtain ⟨ps, cs, hsv⟩ := hS.shape
  subst hsv
  have HBs : Hid (Beside w2 1 (.slice ps S.length cs) S.length (strs S) (.slice p1 L1.length c1)) := ⟨hS.rd, fun _ k hk he => by have h1 := (hS.row.lt k hk).1; have h2 := (HO1.out.row.lt k he).2; omega⟩
  have HSn : Hid (S.length = 2 * labs.length) := by show _ = _; rw [← hSe]; exact stringsL_len labs
  have hSi : (S.length : Int) ≤ 2000000 := by have := HSn.out; omega
  have HRm : Hid (L1.length + (symsBytes t S).length ≤ 1000000000) := by show _ ≤ _; have := HEn.out; have := hL1n.out; omega
  have HO20 : Hid (OwnB w w2 (L1 ++ symsBytes t (S.take 0)) (.slice p1 L1.length c1)) := by
    show OwnB _ _ _ _
    rw [List.take_zero, symsBytes, List.flatMap_nil, List.append_nil]
    exact HO2.out
  clear hS hSe HSr HO1 HA1 HO2 hL1n
  go_wp2_with fail
  go_loopw [0, 20] (fun vv kv wr2 => ∃ (k : Nat), k ≤ S.length ∧ kv = .int .i64 (k : Int) ∧ Hid (OwnB w wr2 (L1 ++ symsBytes t (S.take k)) vv) ∧ Hid (Beside wr2 1 (.slice ps S.length cs) S.length (strs S) vv) ∧ Hid (∀ s ∈ S.take k, s ∈ t) ∧ Hid (ApAt wi (.slice pv E0.length cv) wr2 vv)) (fun _ kv _ => S.length - (intOf kv).toNat)
  case atStart => exact ⟨0, Nat.zero_le _, rfl, HO20.out, HBs.out, (by intro s hs; simp at hs), HA2.out⟩
  case round =>
    obtain ⟨k, hk, rfl, HO4, HB4, HIn, HA4⟩ := hrel
    clear HO20 HBs HA2
    have hkm : (k : Int) ≤ 2000000 := by omega
    obtain ⟨p4, c4, hv4⟩ := HO4.out.shape
    subst hv4
    by_cases hkl : k < S.length
    · have hkl' : (k : Int) < (S.length : Int) := by omega
      obtain ⟨s, hs⟩ : ∃ s, S[k]? = some s := ⟨_, List.getElem?_eq_getElem hkl⟩
      obtain ⟨gs, os, cs', e, _, _, hcell⟩ := HB4.out.rd.at (fun e => by have := congrArg List.length e; rw [strs_length] at this; rw [this] at hkl; simp at hkl)
      simp only [Value.slice.injEq] at e
      obtain ⟨rfl, _, rfl⟩ := e
      have HTk : Hid (S.take (k + 1) = S.take k ++ [s]) := by show _ = _; rw [List.take_add_one, hs]; rfl
      have HSs := Lib.hid (symsBytes_step (t := t) hs)
      have HMs : Hid (s ∈ S) := List.mem_of_getElem? hs
      have HIx := Lib.hid (fun W h => index_met (.slice pt t.length ct) t s W h HTn.out HTa.out)
      have HTw : Hid (Rd wr 1 (.slice pt t.length ct) t.length (strs t)) := HT.out.below HO4.out.bel
      have HLm : Hid ((L1 ++ symsBytes t (S.take k)).length ≤ 1000000000) := by
        show _ ≤ _
        have h1 := symsBytes_take_le t S k
        have h2 := HRm.out
        simp only [List.length_append]
        omega
      have s0 : wr.cell? ⟨gs, os + k, none⟩ = some (.string s) := hcell k _ (by rw [strs, List.getElem?_map, hs]; rfl)
      obtain ⟨L, hL⟩ : ∃ L, L1 ++ symsBytes t (S.take k) = L := ⟨_, rfl⟩
      have HLe : Hid (L1 ++ symsBytes t (S.take (k + 1)) = L ++ groups (idxT t s)) := by show _ = _; rw [HSs.out, ← hL, List.append_assoc L1]
      rw [hL] at HO4 HLm HB4 HA4 ⊢
      clear hs hcell hkl hL HSs
      go_wp2_with fail
      refine (HIx.out wr HTw.out).mono ?_
      rintro en w5 ⟨rfl, hB5⟩
      have HO5 := Lib.hid (HO4.out.below hB5)
      have HA5 := Lib.hid (HA4.out.below hB5)
      have HB5 := Lib.hid (HB4.out.step (Mods.of_below hB5 _) (Fresh.refl _ _))
      clear HIx s0 HO4 HB4 HA4 hB5
      by_cases hin : s ∈ t
      · obtain ⟨j, hj, hjt⟩ := findS_in hin
        have hjl := (List.getElem?_eq_some_iff.1 hjt).1
        have hji : idxT t s = j := by rw [idxT, hj]; rfl
        rw [hj, show max (j : Int) 0 = (j : Int) from Int.max_eq_left (by omega), show decide ((0 : Int) ≤ (j : Int)) = true from decide_eq_true (by omega)]
        rw [hji] at HLe
        have hwj : IntKind.u64.wrap (j : Int) = (j : Int) := by rw [IntKind.wrap_u64]; have := HTn.out; omega
        have HJn : Hid (j < 18446744073709551616) := by show _ < _; have := HTn.out; omega
        have HIn2 : Hid (∀ x ∈ S.take (k + 1), x ∈ t) := by
          intro x hx
          rw [HTk.out] at hx
          rcases List.mem_append.1 hx with e | e
          · exact HIn.out x e
          · simp at e; subst e; exact hin
        clear hj hjt hjl hji hin
        go_wp2_with fail
        refine (var_append13 w w5 L _ j HO5.out HJn.out HLm.out).mono ?_
        rintro en w6 ⟨r6, rfl, hO, hA⟩
        obtain ⟨L2, hL2⟩ : ∃ L2, L1 ++ symsBytes t (S.take (k + 1)) = L2 := ⟨_, rfl⟩
        have HL2 := Lib.hid hL2
        have HO6 : Hid (OwnB w w6 L2 r6) := by show OwnB _ _ _ _; rw [← hL2, HLe.out]; exact hO
        have HB6 := Lib.hid (HB5.out.step hA.mods hA.fresh)
        have HA6 := Lib.hid (HA5.out.step hA.mods hA.fresh)
        obtain ⟨p6, c6, hv6⟩ := HO6.out.shape
        subst hv6
        clear hO hA HO5 HB5 HA5 HLe HIn hL2
        go_wp2_with fail
        go_round
        case rel => exact ⟨k + 1, by omega, by go_num, (by show OwnB _ _ _ _; rw [HL2.out]; exact HO6.out), HB6.out, HIn2.out, HA6.out⟩
        case measure => simp [intOf]; omega
      · rw [findS_out hin]
        rw [show max (-1 : Int) 0 = 0 from rfl, show decide ((0 : Int) ≤ -1) = false from rfl]
        have HBad : Hid (¬ ∀ x ∈ labs, labIn t x) := fun h => hin (stringsL_labIn.2 h s (by show s ∈ stringsL labs; rw [HSe.out]; exact HMs.out))
        clear hin
        go_wp2_with fail
        go_ret2
        exact ⟨HA5.out.mods, Or.inr ⟨rfl, HBad.out, HO5.out.bel⟩⟩
    · have hkl' : ¬ (k : Int) < (S.length : Int) := by omega
      have hte : S.take k = S := List.take_of_length_le (by omega)
      rw [hte] at HO4 HB4 HIn HA4 ⊢
      have HLab : Hid (∀ x ∈ labs, labIn t x) := stringsL_labIn.1 (by rw [HSe.out]; exact HIn.out)
      have HE : Hid (E0 ++ groups labs.length ++ symsBytes t (stringsL labs) = L1 ++ symsBytes t S) := by show _ = _; rw [HL1.out, HSe.out]
      obtain ⟨L2, hL2⟩ : ∃ L2, L1 ++ symsBytes t S = L2 := ⟨_, rfl⟩
      rw [hL2] at HO4 HA4 HE ⊢
      clear hte hkl hk hL2
      go_wp2_with fail
      go_ret2
      exact ⟨HA4.out.mods, Or.inl ⟨_, rfl, HLab.out, by rw [HE.out]; exact HO4.out⟩⟩
end Go.Proofs.Ytmnagmbokajfpaa

end

section
/- Layer 13, the program's own: appendLengths. -/
set_option linter.unusedVariables false
set_option maxRecDepth 20000
namespace Go.Proofs.Ytmnagmbokajfpaa
open Go Go.RowKit

/-- What appendLengths gives. -/
def LensPut (w : World) (E0 : List Nat) (chs : List Int) (en : Ending) (w' : World) : Prop :=
  (∃ r, en = .returned (.tuple #[r, .int .i64 0]) ∧ chs ≠ [] ∧ (∀ n ∈ chs, lenOk n) ∧ OwnB w w' (E0 ++ groups chs.length ++ numsBytes chs) r) ∨
  (en = .returned (.tuple #[.slice none 0 0, .int .i64 23]) ∧ (¬ (chs ≠ [] ∧ ∀ n ∈ chs, lenOk n)) ∧ Below w.heap.size w w')

set_option maxHeartbeats 16000000 in
theorem app_lengths (w wi : World) (E0 : List Nat) (v cv : Value) (chs : List Int) (h : OwnB w wi E0 v) (hl : Rd w 1 cv chs.length (i64s chs)) (hln : chs.length ≤ 1000000) (hlz : ∀ n ∈ chs, -9223372036854775808 ≤ n ∧ n < 9223372036854775808)
    (hE : E0.length + (groups chs.length).length + (numsBytes chs).length ≤ 1000000000) :
    Calls Try.prog 27 #[v, cv] wi fun en w' => LensPut w E0 chs en w' := by
  have HO := Lib.hid h; have HL := Lib.hid hl; have HLn := Lib.hid hln; have HLz := Lib.hid hlz; have HEn := Lib.hid hE
  obtain ⟨pv, kv, hv⟩ := h.shape
  subst hv
  obtain ⟨pc, cc, hv⟩ := hl.shape
  subst hv
  have hcm : (chs.length : Int) ≤ 1000000 := by omega
  have hw : IntKind.u64.wrap (chs.length : Int) = (chs.length : Int) := by rw [IntKind.wrap_u64]; omega
  clear h hl hln hlz hE
  by_cases hc0 : chs.length = 0
  · have hci : (chs.length : Int) = 0 := by omega
    have HBad : Hid (¬ (chs ≠ [] ∧ ∀ n ∈ chs, lenOk n)) := fun h => h.1 (List.eq_nil_of_length_eq_zero hc0)
    clear hc0
    go_enter Try.func27, Try.ntmps27
    go_wp2_with fail
    go_ret2
    exact Or.inr ⟨rfl, HBad.out, HO.out.bel⟩
  · have hci : ¬ (chs.length : Int) = 0 := by omega
    have hcb : ((chs.length : Int) == 0) = false := by rw [beq_eq_false_iff_ne]; exact hci
    have HNe : Hid (chs ≠ []) := fun e => hc0 (by rw [e]; rfl)
    clear hc0
    go_enter Try.func27, Try.ntmps27
    go_wp2_with fail
    refine (var_append13 w wi E0 _ chs.length HO.out (by omega) (by have := HEn.out; omega)).mono ?_
    rintro en w1 ⟨r1, rfl, hO, _⟩
    obtain ⟨L1, hL1⟩ : ∃ L1, E0 ++ groups chs.length = L1 := ⟨_, rfl⟩
    have HL1 := Lib.hid hL1
    rw [hL1] at hO
    have HBm : Hid (L1.length + (numsBytes chs).length ≤ 1000000000) := by show _ ≤ _; have := HEn.out; rw [← hL1, List.length_append]; omega
    have HO1 : Hid (OwnB w w1 (L1 ++ numsBytes (chs.take 0)) r1) := by show OwnB _ _ _ _; rw [List.take_zero, numsBytes, List.flatMap_nil, List.append_nil]; exact hO
    obtain ⟨p1, c1, hv1⟩ := hO.shape
    subst hv1
    clear hO HO hL1
    go_wp2_with fail
    go_loopw [0, 18] (fun vv kv wr2 => ∃ (k : Nat), k ≤ chs.length ∧ kv = .int .i64 (k : Int) ∧ Hid (OwnB w wr2 (L1 ++ numsBytes (chs.take k)) vv) ∧ Hid (∀ n ∈ chs.take k, lenOk n)) (fun _ kv _ => chs.length - (intOf kv).toNat)
    case atStart => exact ⟨0, Nat.zero_le _, rfl, HO1.out, (by intro s hs; simp at hs)⟩
    case round =>
      obtain ⟨k, hk, rfl, HO7, HOk⟩ := hrel
      clear HO1
      have hkm : (k : Int) ≤ 1000000 := by omega
      obtain ⟨p7, c7, hv7⟩ := HO7.out.shape
      subst hv7
      by_cases hkl : k < chs.length
      · have hkl' : (k : Int) < (chs.length : Int) := by omega
        obtain ⟨n, hn⟩ : ∃ n, chs[k]? = some n := ⟨_, List.getElem?_eq_getElem hkl⟩
        have dc := HL.out.below HO7.out.bel
        obtain ⟨gc, oc, cc', e, _, _, hcell⟩ := dc.at (fun e => by have := congrArg List.length e; rw [i64s_length] at this; rw [this] at hkl; simp at hkl)
        simp only [Value.slice.injEq] at e
        obtain ⟨rfl, _, rfl⟩ := e
        have n0 : wr.cell? ⟨gc, oc + k, none⟩ = some (.int .i64 n) := hcell k _ (by rw [i64s, List.getElem?_map, hn]; rfl)
        have HNs := Lib.hid (numsBytes_step hn)
        have HTk : Hid (chs.take (k + 1) = chs.take k ++ [n]) := by show _ = _; rw [List.take_add_one, hn]; rfl
        have HMn : Hid (n ∈ chs) := List.mem_of_getElem? hn
        have HLm : Hid ((L1 ++ numsBytes (chs.take k)).length ≤ 1000000000) := by
          show _ ≤ _
          have h1 := numsBytes_take_le chs k
          have h2 := HBm.out
          simp only [List.length_append]
          omega
        have HIs := Lib.hid (is_len_int n wr)
        obtain ⟨L, hL⟩ : ∃ L, L1 ++ numsBytes (chs.take k) = L := ⟨_, rfl⟩
        have HLe : Hid (L1 ++ numsBytes (chs.take (k + 1)) = L ++ groups n.toNat) := by show _ = _; rw [HNs.out, ← hL, List.append_assoc L1]
        rw [hL] at HO7 HLm ⊢
        clear hn hcell dc HNs hkl hL
        by_cases hok : lenOk n
        · rw [decide_eq_true hok] at HIs
          obtain ⟨m, hm⟩ : ∃ m : Nat, n = (m : Int) := ⟨n.toNat, by have := hok.1; omega⟩
          subst hm
          have hmi : (m : Int) ≤ 2147483647 := hok.2
          have hwm : IntKind.u64.wrap (m : Int) = (m : Int) := by rw [IntKind.wrap_u64]; omega
          have HOk2 : Hid (∀ x ∈ chs.take (k + 1), lenOk x) := by
            intro x hx
            rw [HTk.out] at hx
            rcases List.mem_append.1 hx with e | e
            · exact HOk.out x e
            · simp only [List.mem_singleton] at e; rw [e]; exact hok
          clear hok
          go_wp2_with fail
          refine HIs.out.mono ?_
          rintro en w5 ⟨rfl, rfl⟩
          clear HIs
          go_wp2_with fail
          refine (var_append13 w w5 L _ m HO7.out (by omega) HLm.out).mono ?_
          rintro en w8 ⟨r8, rfl, hO, _⟩
          obtain ⟨L2, hL2⟩ : ∃ L2, L1 ++ numsBytes (chs.take (k + 1)) = L2 := ⟨_, rfl⟩
          have HL2 := Lib.hid hL2
          have HO8 : Hid (OwnB w w8 L2 r8) := by show OwnB _ _ _ _; rw [← hL2, HLe.out]; exact hO
          obtain ⟨p8, c8, hv8⟩ := HO8.out.shape
          subst hv8
          clear hO HO7 HLe HOk n0 hL2 hwm
          go_wp2_with fail
          go_round
          case rel => exact ⟨k + 1, by omega, by go_num, (by show OwnB _ _ _ _; rw [HL2.out]; exact HO8.out), HOk2.out⟩
          case measure => simp [intOf]; omega
        · rw [decide_eq_false hok] at HIs
          have HBad : Hid (¬ (chs ≠ [] ∧ ∀ n ∈ chs, lenOk n)) := fun h => hok (h.2 n HMn.out)
          clear hok
          go_wp2_with fail
          refine HIs.out.mono ?_
          rintro en w5 ⟨rfl, rfl⟩
          clear HIs
          go_wp2_with fail
          go_ret2
          exact Or.inr ⟨rfl, HBad.out, HO7.out.bel⟩
      · have hkl' : ¬ (k : Int) < (chs.length : Int) := by omega
        have hte : chs.take k = chs := List.take_of_length_le (by omega)
        rw [hte] at HO7 HOk ⊢
        have HE : Hid (E0 ++ groups chs.length ++ numsBytes chs = L1 ++ numsBytes chs) := by show _ = _; rw [HL1.out]
        obtain ⟨L2, hL2⟩ : ∃ L2, L1 ++ numsBytes chs = L2 := ⟨_, rfl⟩
        rw [hL2] at HO7 HE ⊢
        clear hte hL2
        go_wp2_with fail
        go_ret2
        exact Or.inl ⟨_, rfl, HNe.out, HOk.out, by rw [HE.out]; exact HO7.out⟩
end Go.Proofs.Ytmnagmbokajfpaa

end
