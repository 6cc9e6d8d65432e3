/- Texts 16. -/
import Derived.Test.YtdcgbgecbeegmaaGreatDoorMgSA
import Derived.Test.YtdcgbgecbeegmaaGreatDoorMgS15
set_option linter.unusedVariables false
set_option linter.unusedSimpArgs false
set_option maxHeartbeats 400000000
set_option maxRecDepth 100000
section
namespace Go.Proofs.YtdcgbgecbeegmaaGreatDoor
open Go Go.RowKit
theorem Lz (l:List ByteArray):AN CB (Bp l):=Gw Bz l
theorem LA (l:List ByteArray) (s:ByteArray):s∈Bp l↔s∈l:=Ly Bz l s
theorem kK {l:List ByteArray} (h:∀s∈l,s.size≤65535):Rf (Bp l):=fun s hs=>h s ((LA l s).1 hs)
def A1 (l:List Int):List Value:=l.map fun x=>.int .i64 x
theorem Ce (l:List Int):(A1 l).length=l.length:=by simp [A1]
theorem Lh (a b:List Int):A1 (a++b)=A1 a++A1 b:=by simp [A1]
theorem ZQ (l:List Int) (i:Nat) (h:i<l.length):(A1 l)[i]? = some (.int .i64 l[i]):=by simp [A1,h]
theorem nQ (l:List Int):∀u∈A1 l,u.oneCell'=true:=by
 intro u hu
 simp only [A1,zBU] at hu
 obtain ⟨n,_,rfl⟩:=hu
 rfl
abbrev Hd:=Value × Value
theorem CO {l:List AC} (h:Am l≠[]):l≠[]:=fun e=>h (by subst e;rfl)
theorem F9 {l:List AC} (h:l≠[]):Am l≠[]:=fun e=>h (zAI (by have:=congrArg List.length e;rw [RD,zBG] at this;omega))
theorem Dk {α:Type} {l:List α} {x y:α} {i:Nat} (h:(l++[x])[i]? = some y):l[i]? = some y∨(i=l.length∧y=x):=by
 by_cases hi:i<l.length
 ·rw [zCE hi] at h;exact Or.inl h
 ·rw [zBS (by omega)] at h
  have:i-l.length=0:=by
   rcases zDE (i-l.length) with e | e
   ·exact e
   ·rw [zCJ (by simp;omega)] at h;cases h
  rw [this] at h
  simp at h
  exact Or.inr ⟨by omega,h.symm⟩
end Go.Proofs.YtdcgbgecbeegmaaGreatDoor
end
