/- Slices of bytes: what a call makes; bytes.Equal. -/
import Derived.Test.YtejaacejlbhndaaProg
import Derived.Test.YtejaacejlbhndaaSlice
import Derived.WalkSpells
import Derived.WalkLawsBesides
import Derived.Outline
import Derived.Lib.Hide
import Derived.Deep.QuietTactic
import Derived.BigQuiet
import Derived.StillTailTactics
namespace Go.Proofs.Ytejaacejlbhndaa
open Go Go.RowKit

theorem Try.infoU8 : (Try.prog.info? 5).map (fun i => (i.zero, i.size, i.bytes)) = some (some (.int .u8 0), 1, 1) := by kernel_rfl

theorem Try.elemU8 : Elem Try.prog 22 5 1 1 := Elem.mk' Try.underlying22 Try.infoU8 rfl (by decide)

/-- A slice that the call has made. -/
def Made (w w' : World) (e : TypeId) (sz : Nat) (r : Value) (n : Nat) (vs : List Value) : Prop := w'.ownsRow w.heap.size e sz r n vs ∧ Below w.heap.size w w'

/-- bytes.Equal of two slices of bytes. -/
theorem equal_any (a b : Value) (n m : Nat) (l k : List Nat) (w : World) (ha : Rd w 1 a n (u8s l)) (hb : Rd w 1 b m (u8s k)) (hl : ∀ x ∈ l, x < 256) (hk : ∀ x ∈ k, x < 256) :
    Calls Try.prog 11 #[a, b] w fun e w' => e = .returned (.bool (decide (l = k))) ∧ w = w' := by
  have e1 := ha.conv (P := Try.prog) 22 5 9 Try.underlying22 Try.underlying5 Try.underlying9
  have e2 := hb.conv (P := Try.prog) 22 5 9 Try.underlying22 Try.underlying5 Try.underlying9
  have e3 := strOf_inj hl hk
  have E3 := Lib.hid e3
  clear ha hb hl hk e3
  generalize strOf l = sl at *
  generalize strOf k = sk at *
  go_enter Try.func11, Try.ntmps11
  go_wp2
  go_ret
  exact ⟨congrArg (fun b => Ending.returned (.bool b)) E3.out, rfl⟩

end Go.Proofs.Ytejaacejlbhndaa
