/-
  DERIVED. GIVEN WITH THE SEED: THE CARDS: each row of YtlgphgipfjlbfaaDoorRows.lean that lists a variable, with what it lists TIED to the program's text (the seventh form; the later family's looks); each row that meets fmt, with fmt's text TOLD by the authors' own Lean function (tested against real Go, not proved from fmt's source: count such statements apart). THE CARD IS WHAT COUNTS. Prove the row's statement (the work); the ties are given (YtlgphgipfjlbfaaDoorTie.lean); close each card by the builder's one call (the guide's Derived/Test/ToyasCard.lean, 'card_holds'). Laid BY PROGRAM, IN A SANDBOX (cutbox-door.mjs). By AI agents, Wed Nov 11 2026. No macro, syntax, notation, axiom, sorry.
-/
import Derived.Test.YtlgphgipfjlbfaaDoorRows
import GoSem.ClaimSeven
namespace Go.Proofs.YtlgphgipfjlbfaaDoor
namespace Rows

/-- THE TIED CARD OF 'tsblocklaw16.LayoutAssembles'. -/
def layoutAssemblesCard : Claim7 := { stood := { row := layoutAssemblesRow, standIns := [], harness := (true, "9529ba406c34d97e551dd6d0719832f196fcd59f80f87088ff221e0148ebdb42"), looks := false }, kinds := [], alts := [], laidByText := true, laidKinds := [.data], laidTests := true, laidLooks := .later }
def LayoutAssemblesCardSaid : Prop := Claim7.holds Tryd.pinned (.plain (OpenSpec.ofChange layoutAssemblesSpec)) layoutAssemblesCard

/-- THE TIED CARD OF 'tsblocklaw16.LayoutParses'. -/
def layoutParsesCard : Claim7 := { stood := { row := layoutParsesRow, standIns := [], harness := (true, "9529ba406c34d97e551dd6d0719832f196fcd59f80f87088ff221e0148ebdb42"), looks := false }, kinds := [], alts := [], laidByText := true, laidKinds := [.data], laidTests := true, laidLooks := .later }
def LayoutParsesCardSaid : Prop := Claim7.holds Tryd.pinned (.plain (OpenSpec.ofChange layoutParsesSpec)) layoutParsesCard

/-- THE TIED CARD OF 'tsblocklaw16.LayoutRoundTrip'. -/
def layoutRoundTripCard : Claim7 := { stood := { row := layoutRoundTripRow, standIns := [], harness := (true, "9529ba406c34d97e551dd6d0719832f196fcd59f80f87088ff221e0148ebdb42"), looks := false }, kinds := [], alts := [], laidByText := true, laidKinds := [.data], laidTests := true, laidLooks := .later }
def LayoutRoundTripCardSaid : Prop := Claim7.holds Tryd.pinned (.plain (OpenSpec.ofChange layoutRoundTripSpec)) layoutRoundTripCard

/-- THE TIED CARD OF 'tsblocklaw16.LayoutIsCanonical'. -/
def layoutIsCanonicalCard : Claim7 := { stood := { row := layoutIsCanonicalRow, standIns := [], harness := (true, "9529ba406c34d97e551dd6d0719832f196fcd59f80f87088ff221e0148ebdb42"), looks := false }, kinds := [], alts := [], laidByText := true, laidKinds := [.data], laidTests := true, laidLooks := .later }
def LayoutIsCanonicalCardSaid : Prop := Claim7.holds Tryd.pinned (.plain (OpenSpec.ofChange layoutIsCanonicalSpec)) layoutIsCanonicalCard

/-- THE TIED CARD OF 'tsblocklaw16.LayoutPrefixes'. -/
def layoutPrefixesCard : Claim7 := { stood := { row := layoutPrefixesRow, standIns := [], harness := (true, "9529ba406c34d97e551dd6d0719832f196fcd59f80f87088ff221e0148ebdb42"), looks := false }, kinds := [], alts := [], laidByText := true, laidKinds := [.data], laidTests := true, laidLooks := .later }
def LayoutPrefixesCardSaid : Prop := Claim7.holds Tryd.pinned (.plain (OpenSpec.ofChange layoutPrefixesSpec)) layoutPrefixesCard

/-- THE TIED CARD OF 'tsblocklaw16.LayoutFindsBursts'. -/
def layoutFindsBurstsCard : Claim7 := { stood := { row := layoutFindsBurstsRow, standIns := [], harness := (true, "9529ba406c34d97e551dd6d0719832f196fcd59f80f87088ff221e0148ebdb42"), looks := false }, kinds := [], alts := [], laidByText := true, laidKinds := [.data], laidTests := true, laidLooks := .later }
def LayoutFindsBurstsCardSaid : Prop := Claim7.holds Tryd.pinned (.plain (OpenSpec.ofChange layoutFindsBurstsSpec)) layoutFindsBurstsCard

/-- THE SECOND FORM's CARD OF 'tsblocklaw16.LayoutAssembles'. -/
def layoutAssemblesUptoCard : Claim7 := { stood := { row := layoutAssemblesUptoRow, standIns := [], harness := (true, "9529ba406c34d97e551dd6d0719832f196fcd59f80f87088ff221e0148ebdb42"), looks := false }, kinds := [], alts := [], laidByText := true, laidKinds := [.data], laidTests := true, laidLooks := .later }
def LayoutAssemblesUptoCardSaid : Prop := Claim7.holds Tryd.pinned (.plain (OpenSpec.upto layoutAssemblesSpec)) layoutAssemblesUptoCard

/-- THE SECOND FORM's CARD OF 'tsblocklaw16.LayoutParses'. -/
def layoutParsesUptoCard : Claim7 := { stood := { row := layoutParsesUptoRow, standIns := [], harness := (true, "9529ba406c34d97e551dd6d0719832f196fcd59f80f87088ff221e0148ebdb42"), looks := false }, kinds := [], alts := [], laidByText := true, laidKinds := [.data], laidTests := true, laidLooks := .later }
def LayoutParsesUptoCardSaid : Prop := Claim7.holds Tryd.pinned (.plain (OpenSpec.upto layoutParsesSpec)) layoutParsesUptoCard

/-- THE SECOND FORM's CARD OF 'tsblocklaw16.LayoutRoundTrip'. -/
def layoutRoundTripUptoCard : Claim7 := { stood := { row := layoutRoundTripUptoRow, standIns := [], harness := (true, "9529ba406c34d97e551dd6d0719832f196fcd59f80f87088ff221e0148ebdb42"), looks := false }, kinds := [], alts := [], laidByText := true, laidKinds := [.data], laidTests := true, laidLooks := .later }
def LayoutRoundTripUptoCardSaid : Prop := Claim7.holds Tryd.pinned (.plain (OpenSpec.upto layoutRoundTripSpec)) layoutRoundTripUptoCard

/-- THE SECOND FORM's CARD OF 'tsblocklaw16.LayoutIsCanonical'. -/
def layoutIsCanonicalUptoCard : Claim7 := { stood := { row := layoutIsCanonicalUptoRow, standIns := [], harness := (true, "9529ba406c34d97e551dd6d0719832f196fcd59f80f87088ff221e0148ebdb42"), looks := false }, kinds := [], alts := [], laidByText := true, laidKinds := [.data], laidTests := true, laidLooks := .later }
def LayoutIsCanonicalUptoCardSaid : Prop := Claim7.holds Tryd.pinned (.plain (OpenSpec.upto layoutIsCanonicalSpec)) layoutIsCanonicalUptoCard

/-- THE SECOND FORM's CARD OF 'tsblocklaw16.LayoutPrefixes'. -/
def layoutPrefixesUptoCard : Claim7 := { stood := { row := layoutPrefixesUptoRow, standIns := [], harness := (true, "9529ba406c34d97e551dd6d0719832f196fcd59f80f87088ff221e0148ebdb42"), looks := false }, kinds := [], alts := [], laidByText := true, laidKinds := [.data], laidTests := true, laidLooks := .later }
def LayoutPrefixesUptoCardSaid : Prop := Claim7.holds Tryd.pinned (.plain (OpenSpec.upto layoutPrefixesSpec)) layoutPrefixesUptoCard

/-- THE SECOND FORM's CARD OF 'tsblocklaw16.LayoutFindsBursts'. -/
def layoutFindsBurstsUptoCard : Claim7 := { stood := { row := layoutFindsBurstsUptoRow, standIns := [], harness := (true, "9529ba406c34d97e551dd6d0719832f196fcd59f80f87088ff221e0148ebdb42"), looks := false }, kinds := [], alts := [], laidByText := true, laidKinds := [.data], laidTests := true, laidLooks := .later }
def LayoutFindsBurstsUptoCardSaid : Prop := Claim7.holds Tryd.pinned (.plain (OpenSpec.upto layoutFindsBurstsSpec)) layoutFindsBurstsUptoCard
end Rows
end Go.Proofs.YtlgphgipfjlbfaaDoor
