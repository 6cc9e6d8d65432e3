/-
  DERIVED. GIVEN WITH THE SEED: THE CARDS: each row of YtnhopiggknfimaaDoorRows.lean that lists a variable, with what it lists TIED to the program's text (the seventh form; the later family's looks); each row that meets fmt, with fmt's text TOLD by the authors' own Lean function (tested against real Go, not proved from fmt's source: count such statements apart). THE CARD IS WHAT COUNTS. Prove the row's statement (the work); the ties are given (YtnhopiggknfimaaDoorTie.lean); close each card by the builder's one call (the guide's Derived/Test/ToyasCard.lean, 'card_holds'). Laid BY PROGRAM, IN A SANDBOX (cutbox-door.mjs). By AI agents, Wed Nov 11 2026. No macro, syntax, notation, axiom, sorry.
-/
import Derived.Test.YtnhopiggknfimaaDoorRows
import GoSem.ClaimSeven
namespace Go.Proofs.YtnhopiggknfimaaDoor
namespace Rows

/-- THE TIED CARD OF 'tsblocklaw06.XorvalWrites'. -/
def xorvalWritesCard : Claim7 := { stood := { row := xorvalWritesRow, standIns := [], harness := (true, "b5939be8f7f2fe5ae4f77668f3d60931bf19b7120a90adc2a3b5493d2e8a3d16"), looks := false }, kinds := [], alts := [], laidByText := true, laidKinds := [.data], laidTests := true, laidLooks := .later }
def XorvalWritesCardSaid : Prop := Claim7.holds Tryd.pinned (.plain (OpenSpec.ofChange xorvalWritesSpec)) xorvalWritesCard

/-- THE TIED CARD OF 'tsblocklaw06.XorvalReads'. -/
def xorvalReadsCard : Claim7 := { stood := { row := xorvalReadsRow, standIns := [], harness := (true, "b5939be8f7f2fe5ae4f77668f3d60931bf19b7120a90adc2a3b5493d2e8a3d16"), looks := false }, kinds := [], alts := [], laidByText := true, laidKinds := [.data], laidTests := true, laidLooks := .later }
def XorvalReadsCardSaid : Prop := Claim7.holds Tryd.pinned (.plain (OpenSpec.ofChange xorvalReadsSpec)) xorvalReadsCard

/-- THE TIED CARD OF 'tsblocklaw06.XorvalRoundTrip'. -/
def xorvalRoundTripCard : Claim7 := { stood := { row := xorvalRoundTripRow, standIns := [], harness := (true, "b5939be8f7f2fe5ae4f77668f3d60931bf19b7120a90adc2a3b5493d2e8a3d16"), looks := false }, kinds := [], alts := [], laidByText := true, laidKinds := [.data], laidTests := true, laidLooks := .later }
def XorvalRoundTripCardSaid : Prop := Claim7.holds Tryd.pinned (.plain (OpenSpec.ofChange xorvalRoundTripSpec)) xorvalRoundTripCard

/-- THE TIED CARD OF 'tsblocklaw06.XorvalIsCanonical'. -/
def xorvalIsCanonicalCard : Claim7 := { stood := { row := xorvalIsCanonicalRow, standIns := [], harness := (true, "b5939be8f7f2fe5ae4f77668f3d60931bf19b7120a90adc2a3b5493d2e8a3d16"), looks := false }, kinds := [], alts := [], laidByText := true, laidKinds := [.data], laidTests := true, laidLooks := .later }
def XorvalIsCanonicalCardSaid : Prop := Claim7.holds Tryd.pinned (.plain (OpenSpec.ofChange xorvalIsCanonicalSpec)) xorvalIsCanonicalCard

/-- THE TIED CARD OF 'tsblocklaw06.XorvalSizes'. -/
def xorvalSizesCard : Claim7 := { stood := { row := xorvalSizesRow, standIns := [], harness := (true, "b5939be8f7f2fe5ae4f77668f3d60931bf19b7120a90adc2a3b5493d2e8a3d16"), looks := false }, kinds := [], alts := [], laidByText := true, laidKinds := [.data], laidTests := true, laidLooks := .later }
def XorvalSizesCardSaid : Prop := Claim7.holds Tryd.pinned (.plain (OpenSpec.ofChange xorvalSizesSpec)) xorvalSizesCard

/-- THE TIED CARD OF 'tsblocklaw06.XorvalMasks'. -/
def xorvalMasksCard : Claim7 := { stood := { row := xorvalMasksRow, standIns := [], harness := (true, "b5939be8f7f2fe5ae4f77668f3d60931bf19b7120a90adc2a3b5493d2e8a3d16"), looks := false }, kinds := [], alts := [], laidByText := true, laidKinds := [.data], laidTests := true, laidLooks := .later }
def XorvalMasksCardSaid : Prop := Claim7.holds Tryd.pinned (.plain (OpenSpec.ofChange xorvalMasksSpec)) xorvalMasksCard

/-- THE SECOND FORM's CARD OF 'tsblocklaw06.XorvalWrites'. -/
def xorvalWritesUptoCard : Claim7 := { stood := { row := xorvalWritesUptoRow, standIns := [], harness := (true, "b5939be8f7f2fe5ae4f77668f3d60931bf19b7120a90adc2a3b5493d2e8a3d16"), looks := false }, kinds := [], alts := [], laidByText := true, laidKinds := [.data], laidTests := true, laidLooks := .later }
def XorvalWritesUptoCardSaid : Prop := Claim7.holds Tryd.pinned (.plain (OpenSpec.upto xorvalWritesSpec)) xorvalWritesUptoCard

/-- THE SECOND FORM's CARD OF 'tsblocklaw06.XorvalReads'. -/
def xorvalReadsUptoCard : Claim7 := { stood := { row := xorvalReadsUptoRow, standIns := [], harness := (true, "b5939be8f7f2fe5ae4f77668f3d60931bf19b7120a90adc2a3b5493d2e8a3d16"), looks := false }, kinds := [], alts := [], laidByText := true, laidKinds := [.data], laidTests := true, laidLooks := .later }
def XorvalReadsUptoCardSaid : Prop := Claim7.holds Tryd.pinned (.plain (OpenSpec.upto xorvalReadsSpec)) xorvalReadsUptoCard

/-- THE SECOND FORM's CARD OF 'tsblocklaw06.XorvalRoundTrip'. -/
def xorvalRoundTripUptoCard : Claim7 := { stood := { row := xorvalRoundTripUptoRow, standIns := [], harness := (true, "b5939be8f7f2fe5ae4f77668f3d60931bf19b7120a90adc2a3b5493d2e8a3d16"), looks := false }, kinds := [], alts := [], laidByText := true, laidKinds := [.data], laidTests := true, laidLooks := .later }
def XorvalRoundTripUptoCardSaid : Prop := Claim7.holds Tryd.pinned (.plain (OpenSpec.upto xorvalRoundTripSpec)) xorvalRoundTripUptoCard

/-- THE SECOND FORM's CARD OF 'tsblocklaw06.XorvalIsCanonical'. -/
def xorvalIsCanonicalUptoCard : Claim7 := { stood := { row := xorvalIsCanonicalUptoRow, standIns := [], harness := (true, "b5939be8f7f2fe5ae4f77668f3d60931bf19b7120a90adc2a3b5493d2e8a3d16"), looks := false }, kinds := [], alts := [], laidByText := true, laidKinds := [.data], laidTests := true, laidLooks := .later }
def XorvalIsCanonicalUptoCardSaid : Prop := Claim7.holds Tryd.pinned (.plain (OpenSpec.upto xorvalIsCanonicalSpec)) xorvalIsCanonicalUptoCard

/-- THE SECOND FORM's CARD OF 'tsblocklaw06.XorvalSizes'. -/
def xorvalSizesUptoCard : Claim7 := { stood := { row := xorvalSizesUptoRow, standIns := [], harness := (true, "b5939be8f7f2fe5ae4f77668f3d60931bf19b7120a90adc2a3b5493d2e8a3d16"), looks := false }, kinds := [], alts := [], laidByText := true, laidKinds := [.data], laidTests := true, laidLooks := .later }
def XorvalSizesUptoCardSaid : Prop := Claim7.holds Tryd.pinned (.plain (OpenSpec.upto xorvalSizesSpec)) xorvalSizesUptoCard

/-- THE SECOND FORM's CARD OF 'tsblocklaw06.XorvalMasks'. -/
def xorvalMasksUptoCard : Claim7 := { stood := { row := xorvalMasksUptoRow, standIns := [], harness := (true, "b5939be8f7f2fe5ae4f77668f3d60931bf19b7120a90adc2a3b5493d2e8a3d16"), looks := false }, kinds := [], alts := [], laidByText := true, laidKinds := [.data], laidTests := true, laidLooks := .later }
def XorvalMasksUptoCardSaid : Prop := Claim7.holds Tryd.pinned (.plain (OpenSpec.upto xorvalMasksSpec)) xorvalMasksUptoCard
end Rows
end Go.Proofs.YtnhopiggknfimaaDoor
