/- Where a reference's Get over lists of words stands. -/
import Derived.Test.YtpphgmgdmdehpaaU64
import Derived.Test.YtpphgmgdmdehpaaRef01C
set_option linter.unusedVariables false
namespace Go.Proofs.Ytpphgmgdmdehpaa
open Go Go.RowKit

/-- Where the reference's Get stands: what it has read, and its reader. -/
structure GSu (q : Nat) (w0 : World) (v : Value) (wr : World) (lv : Value) (acc : List Nat) (v' : Value) (bits : List Bool) : Prop where
  row : wr.ownsRow w0.heap.size 25 1 lv acc.length (u64s acc)
  rd : RefIn wr q v' bits
  own : bits ≠ [] → v'.ownBlock = v.ownBlock
  mods : Mods (fun k => k = q) w0 wr
  lt : q < w0.heap.size
  vlt : bits ≠ [] → ∀ k, v.ownBlock = some k → k < w0.heap.size
  len : bits.length ≤ 70368744177664
theorem GSu.read {q : Nat} {w0 wr w' : World} {v lv v' v'' : Value} {acc : List Nat} {bits : List Bool} {n : Nat} (h : GSu q w0 v wr lv acc v' bits) (k : RefBitsPost q v' (bits.drop n) wr v'' w') : GSu q w0 v w' lv acc v'' (bits.drop n) := by
  have hb : bits.drop n ≠ [] → bits ≠ [] := fun h e => h (by rw [e]; simp)
  refine ⟨k.mods.owns h.row (fun j hj e => by have := (h.row.lt j hj).1; have := h.lt; omega), k.rd, fun hne => (k.own hne).trans (h.own (hb hne)), h.mods.trans k.mods (fun _ _ e => e), h.lt, fun hne => h.vlt (hb hne), by rw [List.length_drop]; have := h.len; omega⟩
theorem GSu.pushed {q : Nat} {w0 wr w' : World} {v lv lv' v' : Value} {acc acc' : List Nat} {bits : List Bool} (h : GSu q w0 v wr lv acc v' bits) (hr : w'.ownsRow 0 25 1 lv' acc'.length (u64s acc')) (hm : Mods (fun k => lv.ownBlock = some k) wr w') (hf : Fresh wr.heap.size lv lv') : GSu q w0 v w' lv' acc' v' bits := by
  have hq : ¬ lv.ownBlock = some q := fun e => by have := (h.row.lt q e).1; have := h.lt; omega
  refine ⟨owns_rebase hr (fun k hk => ?_), h.rd.mods hm hq (fun hne k hk e => ?_), h.own, h.mods.trans (hm.mono (T := fun k => k = q ∨ w0.heap.size ≤ k) (fun j _ e => Or.inr (h.row.lt j e).1)) (fun j hj e => ?_), h.lt, h.vlt, h.len⟩
  · rcases hf k hk with e | e
    · exact (h.row.lt k e).1
    · have := h.mods.size; omega
  · rw [h.own hne] at hk
    have := h.vlt hne k hk; have := (h.row.lt k e).1; omega
  · rcases e with e | e
    · exact e
    · omega
theorem GSu.below {q : Nat} {w0 wr w' : World} {v lv v' : Value} {acc : List Nat} {bits : List Bool} (h : GSu q w0 v wr lv acc v' bits) (hb : Below wr.heap.size wr w') : GSu q w0 v w' lv acc v' bits :=
  ⟨(Mods.of_below hb (fun _ => False)).owns h.row (fun _ _ e => e), h.rd.mods (Mods.of_below hb (fun _ => False)) (fun e => e) (fun _ _ _ e => e), h.own, h.mods.trans (Mods.of_below hb _) (fun _ _ e => e), h.lt, h.vlt, h.len⟩

/-- What the reference's Get leaves. -/
def GetPostV (q : Nat) (w : World) (v : Value) (o : Res (List Nat)) (e : Ending) (w' : World) : Prop :=
  (∃ r, e = .returned (.tuple #[r, .int .i64 (o.e : Int)]) ∧ Rd w' 1 r o.x.length (u64s o.x) ∧ (∀ k, r.ownBlock = some k → w.heap.size ≤ k)) ∧ (∃ v', RefIn w' q v' o.r ∧ (o.r ≠ [] → v'.ownBlock = v.ownBlock)) ∧ Mods (fun k => k = q) w w'
theorem GSu.fails {q : Nat} {w0 wr : World} {v lv v' : Value} {acc : List Nat} {bits : List Bool} (h : GSu q w0 v wr lv acc v' bits) {o : Res (List Nat)} {e : Nat} (ho : o = ⟨e, [], bits⟩) :
    GetPostV q w0 v o (.returned (.tuple #[.slice none 0 0, .int .i64 (e : Int)])) wr := by
  subst ho
  exact ⟨⟨_, rfl, Rd.nil _ _, fun k e => by cases e⟩, ⟨v', h.rd, h.own⟩, h.mods⟩
end Go.Proofs.Ytpphgmgdmdehpaa
