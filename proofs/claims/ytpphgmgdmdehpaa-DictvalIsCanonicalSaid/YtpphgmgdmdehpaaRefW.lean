/- What the reference has written, carried on. -/
import Derived.Test.YtpphgmgdmdehpaaRef01A
set_option linter.unusedVariables false
namespace Go.Proofs.Ytpphgmgdmdehpaa
open Go Go.RowKit

theorem Try.elemBool : Elem Try.prog 34 4 1 1 := Elem.mk' Try.underlying34 Try.infoBool rfl (by decide)
theorem RefWrote.drewN {v v' : Value} {out : List Bool} {w w' : World} (h : RefWrote v out w v' w') (n : Nat) : RefWrote v out w v' (w'.drewN n) :=
  ⟨(Mods.drewN (fun _ => False) w' n).owns h.own (fun _ _ e => e), h.mods.trans (Mods.drewN _ _ _) (fun _ _ e => e), h.fresh⟩
theorem RefWrote.drew {v v' : Value} {out : List Bool} {w w' : World} (h : RefWrote v out w v' w') : RefWrote v out w v' w'.drew :=
  ⟨(Mods.drew (fun _ => False) w').owns h.own (fun _ _ e => e), h.mods.trans (Mods.drew _ _) (fun _ _ e => e), h.fresh⟩
theorem RefWrote.then {v v' u : Value} {out out' : List Bool} {w w' w2 : World} (h : RefWrote v out w v' w') (k : RefWrote v' out' w' u w2) : RefWrote v out' w u w2 :=
  ⟨k.own, h.mods.trans k.mods (fun j hj e => by
    rcases h.fresh j e with e | e
    · exact e
    · omega), h.fresh.trans k.fresh h.mods.size⟩
theorem RefWrote.below {v v' : Value} {out : List Bool} {w w' w2 : World} (h : RefWrote v out w v' w') (hb : Below w'.heap.size w' w2) : RefWrote v out w v' w2 :=
  ⟨(Mods.of_below hb (fun _ => False)).owns h.own (fun _ _ e => e), h.mods.trans (Mods.of_below hb _) (fun _ _ e => e), h.fresh⟩
/-- Bits appended from a literal. -/
theorem RefWrote.lit {v v' u : Value} {out news : List Bool} {w w' w2 : World} (h : RefWrote v out w v' w') (ho : w2.ownsRow 0 4 1 u (out.length + news.length) (bls out ++ bls news)) (hm : Mods (fun k => v'.ownBlock = some k) w' w2) (hf : Fresh w'.heap.size v' u) : RefWrote v (out ++ news) w u w2 :=
  h.then ⟨by rw [BitsIn, List.length_append, bls_append]; exact ho, hm, hf⟩
end Go.Proofs.Ytpphgmgdmdehpaa
