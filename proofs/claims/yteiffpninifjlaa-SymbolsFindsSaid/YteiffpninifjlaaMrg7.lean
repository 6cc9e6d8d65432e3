/- Alive10, Range, Keep, TakeN, in one text. -/
import Derived.Test.YteiffpninifjlaaMrg6
import Derived.RangeFuncNested
import Derived.RangeFuncBound
import Derived.RangeFuncCalls
import Derived.RangeFuncLeaves
import Derived.RangeFuncBox
import Derived.OwnWalkIn
import Derived.Shelf.Abstract
import Derived.TacticsInMore
import Derived.LoopNIn
import Derived.LoopIn
import Derived.Test.YteiffpninifjlaaMrg1
import Derived.OrdersIn

section
/- Layer 10: the example of the chapter, over the interface. -/
set_option linter.unusedVariables false
namespace Go.Proofs.Yteiffpninifjlaa
open Go Go.RowKit
variable {G : Nat} {T : World → Prop}

def chA : ByteArray := ⟨#[97]⟩
def chB : ByteArray := ⟨#[98]⟩
theorem lt_ab : ltS chA chB = true := by simp [ltS, chA, chB, ByteArray.toList_eq, Op.bytesLess]
theorem lt_ba : ltS chB chA = false := by simp [ltS, chA, chB, ByteArray.toList_eq, Op.bytesLess]
theorem tab_bab : tabS [chB, chA, chB] = [chA, chB] := by
  simp [tabS, tabB, tabFrom, insB, lt_ab, lt_ba, ltS_ok.irr]
theorem asc_ab : AscB ltS [chA, chB] := by simp [AscB, lt_ab]
theorem fits_ab : Fits [chA, chB] := by
  intro s hs
  simp only [List.mem_cons, List.not_mem_nil, or_false] at hs
  rcases hs with rfl | rfl <;> decide
theorem enc_ab : encSyR [chA, chB] = (0, [2, 1, 97, 1, 98]) := by
  rw [encSyR_of fits_ab asc_ab]
  have h1 : groups (ByteArray.size ⟨#[97]⟩) = [1] := by rw [show ByteArray.size ⟨#[97]⟩ = 1 from rfl, groups_small (by decide)]
  have h2 : groups (ByteArray.size ⟨#[98]⟩) = [1] := by rw [show ByteArray.size ⟨#[98]⟩ = 1 from rfl, groups_small (by decide)]
  simp [encSy, bytesOf, numsOf, chA, chB, groups_small, h1, h2]
theorem find_ab : findS [chA, chB] chB = 1 := by
  have h : chA ≠ chB := ltS_ok.ne lt_ab
  exact firstI_at (j := 1) (x := chB) (by intro x hx; simp at hx; subst hx; simpa using h) rfl (by simp)

set_option maxHeartbeats 2000000 in
theorem alive_of10 (I : SyIf G T) (w : World) (hT : T w) : Calls Try.prog 10 #[] w fun e w' => e = .returned (.bool true) ∧ Below w.heap.size w w' := by
  have HT := Lib.hid hT
  clear hT
  go_enter Try.func10, Try.ntmps10
  go_wp2_with fail
  have HB0 : Hid (Below w.heap.size w (w.alloc (.cells #[.string ⟨#[98]⟩, .string ⟨#[97]⟩, .string ⟨#[98]⟩] 9))) := (Below.refl _ _).alloc (Nat.le_refl _) _
  have HT0 := Lib.hid (I.below HT.out HB0.out)
  have HL0 : Hid (Rd (w.alloc (.cells #[.string ⟨#[98]⟩, .string ⟨#[97]⟩, .string ⟨#[98]⟩] 9)) 1 (.slice (some ⟨w.heap.size, 0, none⟩) 3 3) ([chB, chA, chB] : List ByteArray).length (strs [chB, chA, chB])) :=
    Rd.of_owns (World.ownsRow_lit (base := 0) w #[.string ⟨#[98]⟩, .string ⟨#[97]⟩, .string ⟨#[98]⟩] 3 (Nat.zero_le _) (by simp [maxLen]) (by simp))
  have HTb := Lib.hid (I.table _ [chB, chA, chB] _ HT0.out HL0.out (by decide))
  generalize w.alloc (.cells #[.string ⟨#[98]⟩, .string ⟨#[97]⟩, .string ⟨#[98]⟩] 9) = w0 at *
  refine HTb.out.mono ?_
  rintro e w1 ⟨r1, rfl, hg⟩
  have hrd := hg.rd
  rw [tab_bab] at hrd
  have HR1 : Hid (Rd w1 1 r1 ([chA, chB] : List ByteArray).length (strs [chA, chB])) := hrd
  have HB1 := Lib.hid (HB0.out.trans (hg.bel.mono HB0.out.size))
  have HT1 := Lib.hid (I.below HT0.out hg.bel)
  obtain ⟨q1, c1, hv⟩ : ∃ p c, r1 = .slice p 2 c := hrd.shape
  subst hv
  have hen := I.encode _ [chA, chB] w1 HT1.out HR1.out (by decide)
  rw [enc_ab] at hen
  have HEn := Lib.hid hen
  clear hen hrd hg HTb HL0 HT0 HB0
  go_wp2_with fail
  refine HEn.out.mono ?_
  rintro e w2 ⟨⟨r2, rfl, hr2, _⟩, hB⟩
  have HR2 : Hid (Rd w2 1 r2 ([2, 1, 97, 1, 98] : List Nat).length (u8s [2, 1, 97, 1, 98])) := hr2
  have HB2 := Lib.hid (HB1.out.trans (hB.mono HB1.out.size))
  have HT2 := Lib.hid (I.below HT1.out hB)
  have HRt := Lib.hid (HR1.out.below hB)
  obtain ⟨q2, c2, hv⟩ : ∃ p c, r2 = .slice p 5 c := hr2.shape
  subst hv
  have hix := I.index _ [chA, chB] chB w2 HT2.out HRt.out (by decide) asc_ab fits_ab
  rw [find_ab] at hix
  have HIx : Hid (Calls Try.prog 16 #[.slice q1 2 c1, .string ⟨#[98]⟩] w2 fun e w' => e = .returned (.tuple #[.int .i64 1, .bool true]) ∧ Below w2.heap.size w2 w') := hix
  clear hix hr2 hB HEn HR1 HT1 HB1
  go_wp2_with fail
  refine HIx.out.mono ?_
  rintro e w3 ⟨rfl, hB⟩
  have HB3 := Lib.hid (HB2.out.trans (hB.mono HB2.out.size))
  have HT3 := Lib.hid (I.below HT2.out hB)
  have HRb := Lib.hid (HR2.out.below hB)
  have HRc := Lib.hid (HRt.out.below hB)
  clear hB HIx HR2 HRt HT2 HB2
  go_wp2_with fail
  have hba : Below w3.heap.size w3 (w3.alloc (.cells #[.string ⟨#[97]⟩, .string ⟨#[98]⟩] 9)) := (Below.refl _ _).alloc (Nat.le_refl _) _
  have HB4 := Lib.hid (HB3.out.trans (hba.mono HB3.out.size))
  have HRb4 := Lib.hid (HRb.out.below hba)
  have HRc4 := Lib.hid (HRc.out.below hba)
  have HLt : Hid (Rd (w3.alloc (.cells #[.string ⟨#[97]⟩, .string ⟨#[98]⟩] 9)) 1 (.slice (some ⟨w3.heap.size, 0, none⟩) 2 2) ([chA, chB] : List ByteArray).length (strs [chA, chB])) :=
    Rd.of_owns (World.ownsRow_lit (base := 0) w3 #[.string ⟨#[97]⟩, .string ⟨#[98]⟩] 2 (Nat.zero_le _) (by simp [maxLen]) (by simp))
  clear hba HRb HRc HB3 HT3
  generalize w3.alloc (.cells #[.string ⟨#[97]⟩, .string ⟨#[98]⟩] 9) = w4 at *
  refine (equal_str _ _ [chA, chB] [chA, chB] w4 HRc4.out HLt.out).mono ?_
  rintro e w5 ⟨rfl, hB⟩
  rw [decide_eq_true (rfl : [chA, chB] = [chA, chB])]
  have HB5 := Lib.hid (HB4.out.trans (hB.mono HB4.out.size))
  have HRb5 := Lib.hid (HRb4.out.below hB)
  have hbc : Below w5.heap.size w5 (w5.alloc (.cells #[.int .u8 2, .int .u8 1, .int .u8 97, .int .u8 1, .int .u8 98] 5)) := (Below.refl _ _).alloc (Nat.le_refl _) _
  have HB6 := Lib.hid (HB5.out.trans (hbc.mono HB5.out.size))
  have HRb6 := Lib.hid (HRb5.out.below hbc)
  have HLb := Lib.hid (lit_rd w5 #[.int .u8 2, .int .u8 1, .int .u8 97, .int .u8 1, .int .u8 98] [2, 1, 97, 1, 98] rfl (by decide))
  clear hB hbc HRb4 HRc4 HLt HB4 HB5 HRb5
  go_wp2_with fail
  generalize w5.alloc (.cells #[.int .u8 2, .int .u8 1, .int .u8 97, .int .u8 1, .int .u8 98] 5) = w6 at *
  refine (equal_any _ _ 5 5 [2, 1, 97, 1, 98] [2, 1, 97, 1, 98] w6 HRb6.out HLb.out (by decide) (by decide)).mono ?_
  rintro e w7 ⟨rfl, rfl⟩
  rw [decide_eq_true (rfl : ([2, 1, 97, 1, 98] : List Nat) = [2, 1, 97, 1, 98])]
  go_wp2_with fail
  go_ret
  exact ⟨rfl, HB6.out⟩
end Go.Proofs.Yteiffpninifjlaa

end

section
/- A range over a function, at the widest fence. No program in sight. -/
namespace Go.Proofs.Yteiffpninifjlaa
open Go Go.RowKit Go.Shelf

/-- In a round an operation that defers nothing is carried out as everywhere. -/
theorem operIn_round {P : Program} {l n : Nat} {o : Oper} {a : Act} {w : World} {next next' : Act → World → Prop} {Q : Exit → Act → World → Prop} (hd : ∀ c, o.op ≠ .defer c) (hn : ∀ a w, next a w → next' a w) (hQ : ¬ LetsOut Q)
    (h : o.wp P a w next Q) : o.wpIn (Fence.wide.inRound l) n P a w next' Q := by
  refine ⟨fun _ _ => trivial, ?_⟩
  show o.uponIn _ n P a next' Q ((o.semAt (some l) a.eval).run P w)
  rw [Oper.semAt_some l a.eval o hd]
  unfold Oper.wp at h
  have hdep : (Fence.wide.inRound l).depth.isSome = true → 1 ≤ n := fun h => by cases h
  revert h
  generalize (execOp a.eval o).run P w = r
  intro h
  cases r with
  | ok v w1 =>
    cases v with
    | value v => exact hn _ _ h
    | skip => exact hn _ _ h
    | defer d => exact hn _ _ h
    | enter f args =>
      refine ⟨hdep, CallsIn.inRound l (callsIn_wide.2 (Calls.mono h ?_))⟩
      intro e w2 h2
      cases e with
      | returned v => exact hn _ _ h2
      | panicked ch => exact h2
      | outgrown => exact absurd h2 hQ
    | row row args =>
      refine ⟨hdep, fun c cs _ => ?_⟩
      obtain ⟨v, w2, h2, s⟩ := h c cs
      exact ⟨v, w2, hn _ _ h2, stepsIn_wide.2 s⟩
    | _ => exact h.elim
  | halt hh w1 =>
    cases hh with
    | panic v => exact h
    | _ => exact h.elim

theorem wpListIn_round {P : Program} {l n : Nat} {ops : Array Oper} {Q : Exit → Act → World → Prop} (hQ : ¬ LetsOut Q) : ∀ (os : List Oper) (a : Act) (w : World), (∀ o ∈ os, ∀ c, o.op ≠ .defer c) →
    wpList P ops Q os a w → wpListIn (Fence.wide.inRound l) n P ops Q os a w
  | [], _, _, _, h => h
  | o :: os, a, w, hd, h => by
    unfold wpListIn
    unfold wpList at h
    split
    · next hw =>
      rw [if_pos hw] at h
      rcases h with h | h
      · exact operIn_round (hd o (by simp)) (fun a w => wpListIn_round hQ os a w (fun o h => hd o (by simp [h]))) hQ h
      · exact absurd h.2 hQ
    · next hw =>
      rw [if_neg hw] at h
      exact ⟨fun _ _ => trivial, wpListIn_round hQ os _ _ (fun o h => hd o (by simp [h])) h⟩

/-! ### What the caller says of its own memory abides the loop's own steps -/
theorem row_other {W : World} {row : Option Nat} {b : Nat} {cs : Array Value} {t : TypeId} {fz : Nat × Nat} (h : W.heap[b]? = some (.cells cs t fz)) (hr : ∀ r, row = some r → ∃ o : Obj, W.heap[r]? = some o ∧ o.isCells = false) : some b ≠ row := fun e => by
  obtain ⟨o, ho, hc⟩ := hr b e.symm
  rw [h] at ho; cases ho; cases hc
theorem own_blk {β : Type} (b : Nat) (f : β → List Value) : Own (fun s W => Blk W b (f s)) := by
  rintro s W W' row ⟨t, h⟩ hg hr
  exact ⟨t, (hg.block b (Array.getElem?_eq_some_iff.1 h).1 (row_other h hr)).trans h⟩
theorem owns_abides {W W' : World} {row : Option Nat} {base : Nat} {e : TypeId} {sz : Nat} {v : Value} {n : Nat} {xs : List Value} (h : W.ownsRow base e sz v n xs) (hg : W.grownBy W' row) (hr : ∀ r, row = some r → ∃ o : Obj, W.heap[r]? = some o ∧ o.isCells = false) : W'.ownsRow base e sz v n xs := by
  refine h.kept hg ?_
  rcases h.2 with ⟨rfl, _⟩ | ⟨g, cap, cur, rfl, _, hgb, _⟩
  · exact .inl rfl
  · exact .inr (fun e => row_other hgb hr e)
theorem ownFrom_mods {β : Type} {B : Nat} {S : Nat → Prop} {w : World} (hB : w.heap.size ≤ B) : OwnFrom B (fun (_ : β) W => Mods S w W) := by
  intro s W W' row h hg hr
  refine ⟨hg.os.trans h.os, hg.tape.trans h.tape, hg.output.trans h.output, Nat.le_trans h.size hg.size, fun k hk hs => ?_⟩
  refine (hg.block k (by have := h.size; omega) (fun e => ?_)).trans (h.block k hk hs)
  have := (hr k e.symm).1
  omega
theorem ownFrom_pure {β : Type} {B : Nat} (p : β → Prop) : OwnFrom B (fun s (_ : World) => p s) := fun _ _ _ _ h _ _ => h
/-- The box holds a row that the call may write, which has come of v. -/
def Holds (e : TypeId) (sz b : Nat) (v : Value) (n : Nat) (xs : List Value) (w W : World) : Prop :=
  ∃ v', Blk W b [v'] ∧ W.ownsRow 0 e sz v' n xs ∧ Fresh w.heap.size v v' ∧ (v'.ownBlock ≠ some b) ∧ Mods (fun k => v.ownBlock = some k) w W
theorem ownFrom_holds {β : Type} {B : Nat} {w : World} (hB : w.heap.size ≤ B) (e : TypeId) (sz b : Nat) (v : Value) (n : β → Nat) (xs : β → List Value) : OwnFrom B (fun s W => Holds e sz b v (n s) (xs s) w W) := by
  rintro s W W' row ⟨v', h1, h2, h3, h4, h5⟩ hg hr
  have hr' : ∀ r, row = some r → ∃ o : Obj, W.heap[r]? = some o ∧ o.isCells = false := fun r e => (hr r e).2
  exact ⟨v', own_blk b (fun _ : Unit => [v']) () W W' row h1 hg hr', owns_abides h2 hg hr', h3, h4, ownFrom_mods hB () W W' row h5 hg hr⟩
theorem KeepsOthers.of_mods {S : Nat → Prop} {W W' : World} (h : Mods S W W') (hS : ∀ k o, S k → W.heap[k]? = some o → o.isCells = true) : KeepsOthers W W' :=
  ⟨h.size, fun k o hk ho => (h.block k (Array.getElem?_eq_some_iff.1 hk).1 (fun e => by rw [hS k o e hk] at ho; cases ho)).trans hk⟩
theorem owns_isCells {W : World} {base : Nat} {e : TypeId} {sz : Nat} {v : Value} {n : Nat} {xs : List Value} (h : W.ownsRow base e sz v n xs) : ∀ k o, v.ownBlock = some k → W.heap[k]? = some o → o.isCells = true := by
  intro k o hk ho
  rcases h.2 with ⟨rfl, _⟩ | ⟨g, cap, cur, rfl, _, hgb, _⟩
  · simp [Value.ownBlock] at hk
  · obtain rfl : g = k := by simpa [Value.ownBlock] using hk
    rw [hgb] at ho; cases ho; rfl
/-- An append in the body of a round: the box holds the longer row. -/
theorem Holds.pushed {e : TypeId} {sz b : Nat} {v v1 v2 : Value} {n m : Nat} {xs ys : List Value} {w W w1 : World} (hb : w.heap.size ≤ b) (h1 : Blk W b [v1]) (h2 : W.ownsRow 0 e sz v1 n xs) (h3 : Fresh w.heap.size v v1) (h4 : v1.ownBlock ≠ some b) (h5 : Mods (fun k => v.ownBlock = some k) w W)
    (k1 : w1.ownsRow 0 e sz v2 m ys) (k2 : Mods (fun k => v1.ownBlock = some k) W w1) (k3 : Fresh W.heap.size v1 v2) :
    Holds e sz b v m ys w (w1.setCell ⟨b, 0, none⟩ v2) ∧ KeepsOthers W (w1.setCell ⟨b, 0, none⟩ v2) := by
  have hne : v2.ownBlock ≠ some b := fun e => by
    rcases k3 b e with e | e
    · exact h4 e
    · have := h1.lt; omega
  refine ⟨⟨v2, ?_, ?_, ?_, hne, ?_⟩, (KeepsOthers.of_mods k2 (owns_isCells h2)).trans (KeepsOthers.setCell _ _ _)⟩
  · simpa using (k2.blk h1 h4).set 0 v2
  · exact (Mods.set (fun k => k = b) w1 ⟨b, 0, none⟩ v2 (fun _ => rfl)).owns k1 (fun k hk e => hne (by rw [hk, e]))
  · exact h3.trans k3 h5.size
  · refine (h5.trans k2 (fun j hj e => ?_)).trans (Mods.set (fun k => k = b) w1 ⟨b, 0, none⟩ v2 (fun _ => rfl)) (fun j hj e => by omega)
    rcases h3 j e with e | e
    · exact e
    · omega
theorem not_letsOut_body {α : Type} {id B : Nat} {Kp : World → World → Prop} {I : List α → World → Prop} {Ix : Code → List α → World → Prop} {xs : List α} {W : World} : ¬ LetsOut (Exit.inBlock id (ownPostG B Kp I Ix xs W)) := by
  rintro ⟨_, _, h⟩; exact h
theorem Mods.putObj {S : Nat → Prop} {w W : World} (h : Mods S w W) {D : Nat} (hD : w.heap.size ≤ D) (o : Obj) : Mods S w (W.putObj D o) := by
  have hg := grownBy_putObj' W D o
  exact ⟨hg.os.trans h.os, hg.tape.trans h.tape, hg.output.trans h.output, Nat.le_trans h.size hg.size, fun k hk hs => (hg.block k (by have := h.size; omega) (fun e => by cases e; omega)).trans (h.block k hk hs)⟩
end Go.Proofs.Yteiffpninifjlaa

end

section
/- An iterator that reads memory between two rounds: the blocks that must stay as they were. No program in sight. -/
namespace Go.Proofs.Yteiffpninifjlaa
open Go Go.RowKit Go.Shelf

/-- The blocks K are as they were. -/
def KeepAt (K : Nat → Prop) (A B : World) : Prop := ∀ k, K k → B.heap[k]? = A.heap[k]?
theorem keepAt_t {K : Nat → Prop} {A B C : World} (h : KeepAt K A B) (k : KeepAt K B C) : KeepAt K A C := fun j hj => (k j hj).trans (h j hj)
theorem keepAt_b {K : Nat → Prop} {w : World} (hK : ∀ k, K k → k < w.heap.size) (W : World) (l : Nat) (o o' : Obj) (hl : w.heap.size ≤ l) (h : W.heap[l]? = some o) (_ : o.isCells = false) (_ : o.isWalk = false) : KeepAt K W (W.putObj l o') := fun k hk => by
  have h1 := hK k hk
  have h2 := (Array.getElem?_eq_some_iff.1 h).1
  exact (grownBy_putObj' W l o').block k (by omega) (fun e => by cases e; omega)
theorem KeepAt.cell {K : Nat → Prop} {A B : World} (h : KeepAt K A B) {b : Nat} (hb : K b) (i : Nat) : B.cell? ⟨b, i, none⟩ = A.cell? ⟨b, i, none⟩ := by
  unfold World.cell?
  rw [h b hb]
theorem KeepAt.rd {K : Nat → Prop} {A B : World} (h : KeepAt K A B) {sz : Nat} {v : Value} {n : Nat} {xs : List Value} (hr : Rd A sz v n xs) (hv : ∀ k, v.ownBlock = some k → K k) : Rd B sz v n xs := by
  refine hr.of_cells fun a u hu ⟨p, hp, hab⟩ => ?_
  have hk : K a.block := hv _ (by rw [hp, hab]; rfl)
  rw [← hu]
  exact World.cell?_of_block (h _ hk)

theorem grown_drewN (w : World) (n : Nat) : w.grownBy (w.drewN n) none := ⟨rfl, rfl, rfl, Nat.le_refl _, fun _ _ _ => rfl⟩
theorem grown_below {w w' : World} (h : Below w.heap.size w w') : w.grownBy w' none := ⟨h.os, h.tape, h.output, h.size, fun k hk _ => h.block k hk⟩
theorem keepAt_below {K : Nat → Prop} {w A B : World} (h : KeepAt K w A) (hK : ∀ k, K k → k < w.heap.size) (hb : Below A.heap.size A B) : KeepAt K w B := fun k hk => by
  have h1 := h k hk
  obtain ⟨o, ho⟩ : ∃ o, w.heap[k]? = some o := ⟨_, Array.getElem?_eq_getElem (hK k hk)⟩
  rw [ho] at h1
  exact (hb.block k (Array.getElem?_eq_some_iff.1 h1).1).trans (h k hk)
end Go.Proofs.Yteiffpninifjlaa

end

section
/- A region that draws its order, within the widest fence, with one call (of yield, say) for which all that reads must wait: walked in ONE order; behind the call nothing need hold of the world. No program in sight. -/
namespace Go.Proofs.Yteiffpninifjlaa
open Go Go.RowKit

section
variable {P : Program} {ops : Array Oper} {Q : Exit → Act → World → Prop} {md : Region.Mode} {S : World → Prop} {n : Nat}

theorem yieldsIf_opI {i : Nat} {o : Oper} {v : Value} {a : Act} (hi : ops[i]? = some o) (hy : YieldsIf P ops S o v a) {K : Act → World → Prop} {w : World} (hS : S w) (h : K (a.put o.dst v) w) : wpOpIn Fence.wide n P ops Q i K a w := by
  unfold wpOpIn
  simp only [hi]
  rcases hy with ⟨hw, hv⟩ | ⟨hw, rfl⟩
  · rw [if_pos hw]
    refine ⟨fun _ _ => trivial, ?_⟩
    show o.uponIn _ n P a _ Q ((o.semAt none a.eval).run P w)
    rw [Oper.semAt_none, hv w hS]
    exact h
  · rw [if_neg (by rw [hw]; decide)]
    exact ⟨fun _ _ => trivial, h⟩

theorem wpOpI_putIf {j : Nat} {oi oj : Oper} {v : Value} (hj : ops[j]? = some oj) (hap : oi.apart ops oj = true)
    (hsi : ∀ cs b, oi.op ≠ .select cs b) (hsj : ∀ cs b, oj.op ≠ .select cs b)
    (hQ : ∀ c a w, Q (.panic c) (a.put oi.dst v) w → Q (.panic c) a w) {K : Act → World → Prop} {a : Act} {w : World}
    (hy : YieldsIf P ops S oi v a) (h : wpOpIn Fence.wide n P ops Q j K (a.put oi.dst v) w) :
    wpOpIn Fence.wide n P ops Q j (fun a' w' => YieldsIf P ops S oi v a' ∧ K (a'.put oi.dst v) w') a w := by
  obtain ⟨h1, h2, h3⟩ := Oper.apart_spec hap
  have keep : ∀ (a : Act), YieldsIf P ops S oi v a → ∀ u, YieldsIf P ops S oi v (a.put oj.dst u) := fun a hy u =>
    hy.of_same (execOp_put oi hsi a oj.dst u h3) (wanted_put oi a oj.dst u h3)
  have keepD : ∀ d, YieldsIf P ops S oi v { a with defers := d :: a.defers } := fun d => hy.of_same rfl rfl
  unfold wpOpIn at *
  simp only [hj] at *
  rw [wanted_put oj a oi.dst v h1] at h
  split
  · next hw =>
    rw [if_pos hw] at h
    obtain ⟨_, h⟩ := h
    refine ⟨fun _ _ => trivial, ?_⟩
    have h : oj.uponIn Fence.wide n P (a.put oi.dst v) K Q ((oj.semAt none (a.put oi.dst v).eval).run P w) := h
    show oj.uponIn Fence.wide n P a _ Q ((oj.semAt none a.eval).run P w)
    rw [Oper.semAt_none] at h ⊢
    rw [execOp_put oj hsj a oi.dst v h1] at h
    generalize (execOp a.eval oj).run P w = r at *
    cases r with
    | ok x w' =>
      cases x <;> simp only [Oper.uponIn] at h ⊢
      case value u => exact ⟨keep a hy u, by rw [← Act.put_comm a v u h2]; exact h⟩
      case skip => exact ⟨keep a hy _, by rw [← Act.put_comm a v undef h2]; exact h⟩
      case defer d =>
        refine ⟨keep _ (keepD d) _, ?_⟩
        rw [← Act.put_comm _ v undef h2, ← Act.put_defers]
        exact h
      case enter f args =>
        refine ⟨h.1, CallsIn.mono h.2 fun e w'' he => ?_⟩
        cases e with
        | returned u => exact ⟨keep a hy u, by rw [← Act.put_comm a v u h2]; exact he⟩
        | panicked c => exact hQ _ _ _ he
        | outgrown => exact he
      case row row args => exact ⟨h.1, RowsIn.mono h.2 fun u w'' he => ⟨keep a hy u, by rw [← Act.put_comm a v u h2]; exact he⟩⟩
      case round l f tmps assign body =>
        refine ⟨h.1, RoundIn.mono h.2 fun e w'' he => ?_⟩
        cases e with
        | returned u => exact ⟨keep a hy u, by rw [← Act.put_comm a v u h2]; exact he⟩
        | panicked c => exact hQ _ _ _ he
        | outgrown => exact he
    | halt x w' =>
      cases x <;> simp only [Oper.uponIn] at h ⊢
      case panic u => exact hQ _ _ _ h
  · next hw =>
    rw [if_neg hw] at h
    exact ⟨fun _ _ => trivial, keep a hy _, by rw [← Act.put_comm a v undef h2]; exact h.2⟩

/-- Number c waits for number i, be it by way of others. -/
def depB (md : Region.Mode) (ops : Array Oper) : Nat → Nat → Nat → Bool
  | 0, _, _ => false
  | f + 1, c, i => match ops[c]? with
    | none => false
    | some o => o.after.any fun e => Region.binds md e && (e.on == i || depB md ops f e.on i)
def Closed (md : Region.Mode) (ops : Array Oper) (listed : Array Bool) : Prop := ∀ k o, ops[k]? = some o → listed.getD k false = true → ∀ e ∈ o.after, Region.binds md e = true → listed.getD e.on false = true
theorem closed_none : Closed md ops (Array.replicate ops.size false) := fun k o _ h => by
  simp [Array.getElem?_replicate] at h
  split at h <;> simp at h
theorem closed_set {listed : Array Bool} {i : Nat} (h : Closed md ops listed) (hi : i ∈ Region.ready md ops listed) : Closed md ops (listed.setIfInBounds i true) := fun k o ho hk e he hb => by
  by_cases hki : i = k
  · subst hki
    obtain ⟨_, o2, ho2, hall⟩ := mem_ready.1 hi
    rw [ho] at ho2
    cases ho2
    exact getD_set_true (hall e he hb)
  · exact getD_set_true (h k o ho (by rwa [getD_set_ne false hki] at hk) e he hb)
theorem dep_listed {listed : Array Bool} (h : Closed md ops listed) (i : Nat) : ∀ (f c : Nat), (∀ o, ops[c]? = some o → ∀ e ∈ o.after, Region.binds md e = true → listed.getD e.on false = true) → depB md ops f c i = true → listed.getD i false = true
  | 0, _, _, hd => by cases hd
  | f + 1, c, hc, hd => by
    unfold depB at hd
    cases ho : ops[c]? with
    | none => rw [ho] at hd; cases hd
    | some o =>
      rw [ho] at hd
      obtain ⟨e, he, h2⟩ := Array.any_eq_true'.1 hd
      simp only [Bool.and_eq_true, Bool.or_eq_true, beq_iff_eq] at h2
      have hl := hc o ho e he h2.1
      rcases h2.2 with e1 | e1
      · rw [← e1]; exact hl
      · exact dep_listed h i f e.on (fun o2 ho2 => h e.on o2 ho2 hl) e1
theorem unlisted {listed : Array Bool} {i : Nat} (h : listed.getD i true = false) : listed.getD i false = false := by
  rcases Nat.lt_or_ge i listed.size with h' | h'
  · simp [h'] at h ⊢; exact h
  · simp [Array.getElem?_eq_none h'] at h

def wpAnyHC (n : Nat) (P : Program) (md : Region.Mode) (ops : Array Oper) (Q : Exit → Act → World → Prop) (c : Nat) (S : World → Prop) : Nat → Array Bool → Act → World → Prop
  | 0, listed, a, w => Region.ready md ops listed = [] ∧ Q .normal a w
  | fuel + 1, listed, a, w =>
    (Region.ready md ops listed = [] → Q .normal a w) ∧
    ∀ i ∈ Region.ready md ops listed, wpOpIn Fence.wide n P ops Q i (fun a' w' => ((listed.setIfInBounds i true).getD c false = true ∨ S w') ∧ wpAnyHC n P md ops Q c S fuel (listed.setIfInBounds i true) a' w') a w
theorem wpAnyIn_of_heldC {c : Nat} : ∀ (fuel : Nat) (listed : Array Bool) (a : Act) (w : World), wpAnyHC n P md ops Q c S fuel listed a w → wpAnyIn Fence.wide n P md ops Q fuel listed a w
  | 0, _, _, _, h => h
  | fuel + 1, _, _, _, h => ⟨h.1, fun i hi => wpOpIn_mono (fun a' w' h' => wpAnyIn_of_heldC fuel _ a' w' h'.2) (h.2 i hi)⟩

/-- S': what operation i asks of the world: S, where the call waits for it; nothing else. -/
theorem wpAnyHC_first {i c : Nat} {oi : Oper} {v : Value} {S' : World → Prop} (hi : ops[i]? = some oi) (hic : i ≠ c) (hsel : ∀ (j : Nat) (o : Oper) cs b, ops[j]? = some o → o.op ≠ .select cs b)
    (hQ : ∀ c a w, Q (.panic c) (a.put oi.dst v) w → Q (.panic c) a w) (hS' : (∀ w, S' w) ∨ (depB md ops ops.size c i = true ∧ ∀ w, S w → S' w)) :
    ∀ (fuel : Nat) (listed : Array Bool) (a : Act) (w : World),
      (∀ j oj, ops[j]? = some oj → j ≠ i → listed.getD j true = false → (∀ e ∈ oj.after, Region.binds md e = true → e.on ≠ i) → oi.apart ops oj = true) → Closed md ops listed →
      i ∈ Region.ready md ops listed → YieldsIf P ops S' oi v a → S' w → (listed.getD c false = true ∨ S w) →
      wpAnyHC n P md ops Q c S fuel (listed.setIfInBounds i true) (a.put oi.dst v) w → wpAnyHC n P md ops Q c S (fuel + 1) listed a w := by
  intro fuel
  induction fuel with
  | zero =>
    intro listed a w _ hcl hr hy hS hcs H
    refine ⟨fun h => (by rw [h] at hr; cases hr), fun j hj => ?_⟩
    by_cases hji : j = i
    · subst hji
      exact yieldsIf_opI hi hy hS ⟨hcs.imp (fun h => getD_set_true h) id, H⟩
    · have := ready_mono hj hji
      rw [H.1] at this
      cases this
  | succ fuel ih =>
    intro listed a w hfree hcl hr hy hS hcs H
    refine ⟨fun h => (by rw [h] at hr; cases hr), fun j hj => ?_⟩
    by_cases hji : j = i
    · subst hji
      exact yieldsIf_opI hi hy hS ⟨hcs.imp (fun h => getD_set_true h) id, H⟩
    · have h1 := H.2 j (ready_mono hj hji)
      obtain ⟨hjun, oj, hoj, hall⟩ := mem_ready.1 hj
      have hnot : ∀ e ∈ oj.after, Region.binds md e = true → e.on ≠ i := fun e he hb heq => by
        have h1 := hall e he hb
        rw [heq, unlisted (mem_ready.1 hr).1] at h1
        cases h1
      have hclj := closed_set hcl hj
      have hiun : (listed.setIfInBounds j true).getD i false = false := by rw [getD_set_ne false hji]; exact unlisted (mem_ready.1 hr).1
      have h2 := wpOpI_putIf hoj (hfree j oj hoj hji hjun hnot) (fun cs b => hsel i oi cs b hi) (fun cs b => hsel j oj cs b hoj) hQ hy h1
      have hfree' : ∀ k ok, ops[k]? = some ok → k ≠ i → (listed.setIfInBounds j true).getD k true = false →
          (∀ e ∈ ok.after, Region.binds md e = true → e.on ≠ i) → oi.apart ops ok = true := fun k ok hk hki hun hno => by
        refine hfree k ok hk hki ?_ hno
        by_cases hjk : j = k
        · subst hjk; exact hjun
        · rw [getD_set_ne true hjk] at hun; exact hun
      have hcond : ∀ w', (((listed.setIfInBounds i true).setIfInBounds j true).getD c false = true ∨ S w') → ((listed.setIfInBounds j true).getD c false = true ∨ S w') := fun w' h => h.imp (fun h => by
        rw [Array.setIfInBounds_comm _ _ (Ne.symm hji), getD_set_ne false hic] at h
        exact h) id
      have hSn : ∀ w', ((listed.setIfInBounds j true).getD c false = true ∨ S w') → S' w' := fun w' h => by
        rcases hS' with e | ⟨hd, e⟩
        · exact e w'
        · rcases h with h | h
          · have := dep_listed hclj i ops.size c (fun o ho e he hb => hclj c o ho h e he hb) hd
            rw [hiun] at this
            cases this
          · exact e w' h
      refine wpOpIn_mono (fun a' w' h3 => ?_) h2
      have hc3 := hcond w' h3.2.1
      refine ⟨hc3, ih (listed.setIfInBounds j true) a' w' hfree' hclj (ready_mono hr (Ne.symm hji)) h3.1 (hSn w' hc3) hc3 ?_⟩
      rw [Array.setIfInBounds_comm _ _ hji]
      exact h3.2.2
end

/-- A chain of operations that yield their values in every world that meets S. -/
def runsN (P : Program) (ops : Array Oper) (S : World → Prop) : List (Nat × Oper) → (Act → Prop) → Act → Prop
  | [], K, a => K a
  | (_, o) :: rest, K, a => if Region.wanted o (yielded ops a.tmps) = true then ∃ v, (∀ w, S w → (execOp a.eval o).run P w = .ok (.value v) w) ∧ runsN P ops S rest K (a.put o.dst v)
      else runsN P ops S rest K (a.put o.dst undef)
def orderN (md : Region.Mode) (ops : Array Oper) (c : Nat) (R : List Nat) : List Nat → Array Bool → Bool
  | [], listed => Region.ready md ops listed == [c] && orderB md ops [] R (listed.setIfInBounds c true)
  | i :: rest, listed => Region.free md ops listed i && (Region.ready md ops listed).contains i && (depB md ops ops.size c i && (i != c && orderN md ops c R rest (listed.setIfInBounds i true)))

section
variable {P : Program} {l : List Oper} {Q : Exit → Act → World → Prop} {md : Region.Mode} {S : World → Prop} {n c : Nat}

theorem wpAnyHC_rest (hs : Region.noSelect l.toArray = true) (hQ : ∀ c (a a' : Act) w, a.defers = a'.defers → Q (.panic c) a w → Q (.panic c) a' w) : ∀ (R : List Nat) (listed : Array Bool) (a : Act) (w : World) (fuel : Nat), R.length ≤ fuel →
    (∀ i ∈ R, i < l.length) → c ∉ R → orderB md l.toArray [] R listed = true → Closed md l.toArray listed → listed.getD c false = true → runsN P l.toArray (fun _ => True) (taken l R) (fun a' => Q .normal a' w) a → wpAnyHC n P md l.toArray Q c S fuel listed a w
  | [], listed, a, w, fuel, _, _, _, hB, _, _, h => by
    have hr : Region.ready md l.toArray listed = [] := by simpa [orderB] using hB
    cases fuel with
    | zero => exact ⟨hr, h⟩
    | succ fuel => exact ⟨fun _ => h, by rw [hr]; simp⟩
  | i :: rest, listed, a, w, 0, hf, _, _, _, _, _, _ => by simp at hf
  | i :: rest, listed, a, w, fuel + 1, hf, hl, hc, hB, hcl, hcs, h => by
    have hf' : rest.length ≤ fuel := by simpa using hf
    have hl' : ∀ j ∈ rest, j < l.length := fun j hj => hl j (by simp [hj])
    have hc' : c ∉ rest := fun e => hc (by simp [e])
    have hic : i ≠ c := fun e => hc (by simp [e])
    have hi : i < l.length := hl i (by simp)
    unfold orderB at hB
    simp only [List.contains_nil, Bool.false_eq_true, if_false, Bool.and_eq_true] at hB
    obtain ⟨h1, h2⟩ := hB
    have ho : l.toArray[i]? = some l[i] := by simp [hi]
    have e : taken l (i :: rest) = (i, l[i]) :: taken l rest := by simp [taken, hi]
    rw [e] at h
    unfold runsN at h
    generalize l[i] = o at *
    have hmem : i ∈ Region.ready md l.toArray listed := by simpa using h1.2
    have hcl2 := closed_set hcl hmem
    have hcs2 : (listed.setIfInBounds i true).getD c false = true := getD_set_true hcs
    by_cases hw : Region.wanted o (yielded l.toArray a.tmps) = true
    · rw [if_pos hw] at h
      obtain ⟨v, hv, h⟩ := h
      exact wpAnyHC_first (S' := fun _ => True) ho hic (Region.noSelect_spec hs) (fun c a w h => hQ c _ _ w (put_defers _ _ _) h) (.inl (fun _ => trivial)) fuel listed a w (Region.free_spec ho h1.1) hcl hmem (.inl ⟨hw, hv⟩) trivial (.inl hcs) (wpAnyHC_rest hs hQ rest _ _ w fuel hf' hl' hc' h2 hcl2 hcs2 h)
    · rw [if_neg hw] at h
      exact wpAnyHC_first (S' := fun _ => True) ho hic (Region.noSelect_spec hs) (fun c a w h => hQ c _ _ w (put_defers _ _ _) h) (.inl (fun _ => trivial)) fuel listed a w (Region.free_spec ho h1.1) hcl hmem (.inr ⟨by simpa using hw, rfl⟩) trivial (.inl hcs) (wpAnyHC_rest hs hQ rest _ _ w fuel hf' hl' hc' h2 hcl2 hcs2 h)

theorem wpAnyHC_of_take {o : Oper} (hoc : l.toArray[c]? = some o) (hs : Region.noSelect l.toArray = true) (hQ : ∀ c (a a' : Act) w, a.defers = a'.defers → Q (.panic c) a w → Q (.panic c) a' w) (R : List Nat) (hR : ∀ i ∈ R, i < l.length) (hcR : c ∉ R) : ∀ (L : List Nat) (listed : Array Bool) (a : Act) (w : World) (fuel : Nat), L.length + 1 + R.length ≤ fuel →
    (∀ i ∈ L, i < l.length) → orderN md l.toArray c R L listed = true → Closed md l.toArray listed → S w →
    runsN P l.toArray S (taken l L) (fun a1 => Region.wanted o (yielded l.toArray a1.tmps) = true ∧ o.wpIn Fence.wide n P a1 w (fun a2 w2 => runsN P l.toArray (fun _ => True) (taken l R) (fun a3 => Q .normal a3 w2) a2) Q) a → wpAnyHC n P md l.toArray Q c S fuel listed a w
  | [], listed, a, w, 0, hf, _, _, _, _, _ => by simp at hf
  | [], listed, a, w, fuel + 1, hf, _, hB, hcl, hS, h => by
    unfold orderN at hB
    rw [Bool.and_eq_true] at hB
    have hr : Region.ready md l.toArray listed = [c] := by simpa using hB.1
    refine ⟨fun h0 => absurd (hr ▸ h0) (by simp), fun j hj => ?_⟩
    have hmem := hj
    rw [hr] at hj
    obtain rfl : j = c := by simpa using hj
    have hcs : (listed.setIfInBounds j true).getD j false = true := by
      have h1 := (mem_ready.1 hmem).1
      rcases Nat.lt_or_ge j listed.size with h' | h'
      · simp [h']
      · simp [Array.getElem?_eq_none h'] at h1
    unfold wpOpIn
    simp only [hoc]
    obtain ⟨hw, h⟩ := h
    rw [if_pos hw]
    exact Oper.wpIn_mono (fun a w h => ⟨.inl hcs, wpAnyHC_rest hs hQ R _ a w fuel (by simp at hf; omega) hR hcR hB.2 (closed_set hcl hmem) hcs h⟩) h
  | i :: rest, listed, a, w, 0, hf, _, _, _, _, _ => by simp at hf
  | i :: rest, listed, a, w, fuel + 1, hf, hl, hB, hcl, hS, h => by
    have hf' : rest.length + 1 + R.length ≤ fuel := by simp at hf; omega
    have hl' : ∀ j ∈ rest, j < l.length := fun j hj => hl j (by simp [hj])
    have hi : i < l.length := hl i (by simp)
    unfold orderN at hB
    simp only [Bool.and_eq_true, bne_iff_ne] at hB
    obtain ⟨⟨hfr, hrd⟩, hdep, hic, h2⟩ := hB
    have ho : l.toArray[i]? = some l[i] := by simp [hi]
    have e : taken l (i :: rest) = (i, l[i]) :: taken l rest := by simp [taken, hi]
    rw [e] at h
    unfold runsN at h
    generalize l[i] = o' at *
    have hmem : i ∈ Region.ready md l.toArray listed := by simpa using hrd
    have hcl2 := closed_set hcl hmem
    by_cases hw : Region.wanted o' (yielded l.toArray a.tmps) = true
    · rw [if_pos hw] at h
      obtain ⟨v, hv, h⟩ := h
      exact wpAnyHC_first (S' := S) ho hic (Region.noSelect_spec hs) (fun c a w h => hQ c _ _ w (put_defers _ _ _) h) (.inr ⟨hdep, fun _ h => h⟩) fuel listed a w (Region.free_spec ho hfr) hcl hmem (.inl ⟨hw, hv⟩) hS (.inr hS) (wpAnyHC_of_take hoc hs hQ R hR hcR rest _ _ w fuel hf' hl' h2 hcl2 hS h)
    · rw [if_neg hw] at h
      exact wpAnyHC_first (S' := S) ho hic (Region.noSelect_spec hs) (fun c a w h => hQ c _ _ w (put_defers _ _ _) h) (.inr ⟨hdep, fun _ h => h⟩) fuel listed a w (Region.free_spec ho hfr) hcl hmem (.inr ⟨by simpa using hw, rfl⟩) hS (.inr hS) (wpAnyHC_of_take hoc hs hQ R hR hcR rest _ _ w fuel hf' hl' h2 hcl2 hS h)

/-- Such a region ends in no panic here. -/
theorem wpIn_region_takeN {id : Nat} {a : Act} {w : World} (S : World → Prop) (L : List Nat) (c : Nat) (R : List Nat) {o : Oper} (hoc : l.toArray[c]? = some o) (hm : P.follows .mixedOrders = true) (hs : Region.noSelect l.toArray = true)
    (hB : (decide (L.length + 1 + R.length ≤ l.length) && (L.all (fun i => decide (i < l.length)) && (R.all (fun i => decide (i < l.length) && i != c) && orderN .any l.toArray c R L (Array.replicate l.length false)))) = true)
    (hS : S w.drew) (h : runsN P l.toArray S (taken l L) (fun a1 => Region.wanted o (yielded l.toArray a1.tmps) = true ∧ ∀ K : Act → World → Prop, (∀ a2 w2, runsN P l.toArray (fun _ => True) (taken l R) (fun a3 => Q .normal a3 w2) a2 → K a2 w2) → o.wpIn Fence.wide n P a1 w.drew K (fun e a w => e = .normal ∧ Q .normal a w)) a) : (Code.region id l.toArray true).wpIn Fence.wide n P Q a w := by
  simp only [Bool.and_eq_true, List.all_eq_true, decide_eq_true_eq, bne_iff_ne] at hB
  obtain ⟨h1, h2, h3, h4⟩ := hB
  refine Code.wpIn_mono (Q := fun e a w => e = .normal ∧ Q .normal a w) (fun _ _ _ h => h.1 ▸ h.2) ?_
  refine wpIn_region_any hm (wpAnyIn_of_heldC (c := c) (S := S) _ _ _ _ (wpAnyHC_of_take hoc hs (fun c a a' w _ h => by cases h.1) R (fun i hi => (h3 i hi).1) (fun e => (h3 c e).2 rfl) L _ a _ _ (by simpa using h1) h2 (by simpa using h4) (by have := closed_none (md := .any) (ops := l.toArray); simpa using this) hS ?_))
  have hmono : ∀ (L : List (Nat × Oper)) (S : World → Prop) (K K' : Act → Prop) (a : Act), (∀ a, K a → K' a) → runsN P l.toArray S L K a → runsN P l.toArray S L K' a := by
    intro L
    induction L with
    | nil => intro S K K' a hk h; exact hk a h
    | cons x rest ih =>
      intro S K K' a hk h
      obtain ⟨i, o⟩ := x
      unfold runsN at h ⊢
      split
      · next hw =>
        rw [if_pos hw] at h
        obtain ⟨v, hv, h⟩ := h
        exact ⟨v, hv, ih S K K' _ hk h⟩
      · next hw =>
        rw [if_neg hw] at h
        exact ih S K K' _ hk h
  exact hmono _ _ _ _ _ (fun a1 h => ⟨h.1, h.2 _ (fun a2 w2 h2 => hmono _ _ _ _ _ (fun a3 h => ⟨rfl, h⟩) h2)⟩) h

variable {ops : Array Oper} {K : Act → Prop}
theorem takeN_nil {a : Act} (h : K a) : runsN P ops S [] K a := h
theorem takeN_skip {i : Nat} {o : Oper} {rest : List (Nat × Oper)} {a : Act} (hw : Region.wanted o (yielded ops a.tmps) = false) (h : runsN P ops S rest K (a.put o.dst undef)) : runsN P ops S ((i, o) :: rest) K a := by
  unfold runsN
  rw [if_neg (by rw [hw]; decide)]
  exact h
theorem takeN_blind {i : Nat} {o : Oper} {rest : List (Nat × Oper)} {a : Act} (_ : true = true) (hw : Region.wanted o (yielded ops a.tmps) = true)
    (h : ∃ v, (∀ w, (execOp a.eval o).run P w = .ok (.value v) w) ∧ runsN P ops S rest K (a.put o.dst v)) : runsN P ops S ((i, o) :: rest) K a := by
  unfold runsN
  rw [if_pos hw]
  obtain ⟨v, h1, h2⟩ := h
  exact ⟨v, fun w _ => h1 w, h2⟩
theorem takeN_reads {i : Nat} {o : Oper} {rest : List (Nat × Oper)} {a : Act} (_ : true = true) (hw : Region.wanted o (yielded ops a.tmps) = true)
    (h : ∃ v, (∀ w, S w → (execOp a.eval o).run P w = .ok (.value v) w) ∧ runsN P ops S rest K (a.put o.dst v)) : runsN P ops S ((i, o) :: rest) K a := by
  unfold runsN
  rw [if_pos hw]
  exact h
end
end Go.Proofs.Yteiffpninifjlaa

end
