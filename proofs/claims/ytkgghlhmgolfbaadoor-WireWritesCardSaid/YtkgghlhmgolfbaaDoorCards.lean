/-
  DERIVED. GIVEN WITH THE SEED: THE CARDS: each row of YtkgghlhmgolfbaaDoorRows.lean that lists a variable, with what it lists TIED to the program's text (the seventh form; the later family's looks); each row that meets fmt, with fmt's text TOLD by the authors' own Lean function (tested against real Go, not proved from fmt's source: count such statements apart). THE CARD IS WHAT COUNTS. Prove the row's statement (the work); the ties are given (YtkgghlhmgolfbaaDoorTie.lean); close each card by the builder's one call (the guide's Derived/Test/ToyasCard.lean, 'card_holds'). Laid BY PROGRAM, IN A SANDBOX (cutbox-door.mjs). By AI agents, Wed Nov 11 2026. No macro, syntax, notation, axiom, sorry.
-/
import Derived.Test.YtkgghlhmgolfbaaDoorRows
import GoSem.ClaimSeven
namespace Go.Proofs.YtkgghlhmgolfbaaDoor
namespace Rows

/-- THE TIED CARD OF 'tsblocklaw04.WireWrites'. -/
def wireWritesCard : Claim7 := { stood := { row := wireWritesRow, standIns := [], harness := (true, "ff409f7e4ce2eed062e61c86c75676d1d8101b155b52a8a4d144e64a6963353b"), looks := false }, kinds := [], alts := [], laidByText := true, laidKinds := [.data], laidTests := true, laidLooks := .later }
def WireWritesCardSaid : Prop := Claim7.holds Tryd.pinned (.plain (OpenSpec.ofChange wireWritesSpec)) wireWritesCard

/-- THE TIED CARD OF 'tsblocklaw04.WireReads'. -/
def wireReadsCard : Claim7 := { stood := { row := wireReadsRow, standIns := [], harness := (true, "ff409f7e4ce2eed062e61c86c75676d1d8101b155b52a8a4d144e64a6963353b"), looks := false }, kinds := [], alts := [], laidByText := true, laidKinds := [.data], laidTests := true, laidLooks := .later }
def WireReadsCardSaid : Prop := Claim7.holds Tryd.pinned (.plain (OpenSpec.ofChange wireReadsSpec)) wireReadsCard

/-- THE TIED CARD OF 'tsblocklaw04.WireRoundTrip'. -/
def wireRoundTripCard : Claim7 := { stood := { row := wireRoundTripRow, standIns := [], harness := (true, "ff409f7e4ce2eed062e61c86c75676d1d8101b155b52a8a4d144e64a6963353b"), looks := false }, kinds := [], alts := [], laidByText := true, laidKinds := [.data], laidTests := true, laidLooks := .later }
def WireRoundTripCardSaid : Prop := Claim7.holds Tryd.pinned (.plain (OpenSpec.ofChange wireRoundTripSpec)) wireRoundTripCard

/-- THE TIED CARD OF 'tsblocklaw04.WireFindsBursts'. -/
def wireFindsBurstsCard : Claim7 := { stood := { row := wireFindsBurstsRow, standIns := [], harness := (true, "ff409f7e4ce2eed062e61c86c75676d1d8101b155b52a8a4d144e64a6963353b"), looks := false }, kinds := [], alts := [], laidByText := true, laidKinds := [.data], laidTests := true, laidLooks := .later }
def WireFindsBurstsCardSaid : Prop := Claim7.holds Tryd.pinned (.plain (OpenSpec.ofChange wireFindsBurstsSpec)) wireFindsBurstsCard

/-- THE TIED CARD OF 'tsblocklaw04.WireStays'. -/
def wireStaysCard : Claim7 := { stood := { row := wireStaysRow, standIns := [], harness := (true, "ff409f7e4ce2eed062e61c86c75676d1d8101b155b52a8a4d144e64a6963353b"), looks := false }, kinds := [], alts := [], laidByText := true, laidKinds := [.data], laidTests := true, laidLooks := .later }
def WireStaysCardSaid : Prop := Claim7.holds Tryd.pinned (.plain (OpenSpec.ofChange wireStaysSpec)) wireStaysCard

/-- THE TIED CARD OF 'tsblocklaw04.WireIsolated'. -/
def wireIsolatedCard : Claim7 := { stood := { row := wireIsolatedRow, standIns := [], harness := (true, "ff409f7e4ce2eed062e61c86c75676d1d8101b155b52a8a4d144e64a6963353b"), looks := false }, kinds := [], alts := [], laidByText := true, laidKinds := [.data], laidTests := true, laidLooks := .later }
def WireIsolatedCardSaid : Prop := Claim7.holds Tryd.pinned (.plain (OpenSpec.ofChange wireIsolatedSpec)) wireIsolatedCard

/-- THE SECOND FORM's CARD OF 'tsblocklaw04.WireWrites'. -/
def wireWritesUptoCard : Claim7 := { stood := { row := wireWritesUptoRow, standIns := [], harness := (true, "ff409f7e4ce2eed062e61c86c75676d1d8101b155b52a8a4d144e64a6963353b"), looks := false }, kinds := [], alts := [], laidByText := true, laidKinds := [.data], laidTests := true, laidLooks := .later }
def WireWritesUptoCardSaid : Prop := Claim7.holds Tryd.pinned (.plain (OpenSpec.upto wireWritesSpec)) wireWritesUptoCard

/-- THE SECOND FORM's CARD OF 'tsblocklaw04.WireReads'. -/
def wireReadsUptoCard : Claim7 := { stood := { row := wireReadsUptoRow, standIns := [], harness := (true, "ff409f7e4ce2eed062e61c86c75676d1d8101b155b52a8a4d144e64a6963353b"), looks := false }, kinds := [], alts := [], laidByText := true, laidKinds := [.data], laidTests := true, laidLooks := .later }
def WireReadsUptoCardSaid : Prop := Claim7.holds Tryd.pinned (.plain (OpenSpec.upto wireReadsSpec)) wireReadsUptoCard

/-- THE SECOND FORM's CARD OF 'tsblocklaw04.WireRoundTrip'. -/
def wireRoundTripUptoCard : Claim7 := { stood := { row := wireRoundTripUptoRow, standIns := [], harness := (true, "ff409f7e4ce2eed062e61c86c75676d1d8101b155b52a8a4d144e64a6963353b"), looks := false }, kinds := [], alts := [], laidByText := true, laidKinds := [.data], laidTests := true, laidLooks := .later }
def WireRoundTripUptoCardSaid : Prop := Claim7.holds Tryd.pinned (.plain (OpenSpec.upto wireRoundTripSpec)) wireRoundTripUptoCard

/-- THE SECOND FORM's CARD OF 'tsblocklaw04.WireFindsBursts'. -/
def wireFindsBurstsUptoCard : Claim7 := { stood := { row := wireFindsBurstsUptoRow, standIns := [], harness := (true, "ff409f7e4ce2eed062e61c86c75676d1d8101b155b52a8a4d144e64a6963353b"), looks := false }, kinds := [], alts := [], laidByText := true, laidKinds := [.data], laidTests := true, laidLooks := .later }
def WireFindsBurstsUptoCardSaid : Prop := Claim7.holds Tryd.pinned (.plain (OpenSpec.upto wireFindsBurstsSpec)) wireFindsBurstsUptoCard

/-- THE SECOND FORM's CARD OF 'tsblocklaw04.WireStays'. -/
def wireStaysUptoCard : Claim7 := { stood := { row := wireStaysUptoRow, standIns := [], harness := (true, "ff409f7e4ce2eed062e61c86c75676d1d8101b155b52a8a4d144e64a6963353b"), looks := false }, kinds := [], alts := [], laidByText := true, laidKinds := [.data], laidTests := true, laidLooks := .later }
def WireStaysUptoCardSaid : Prop := Claim7.holds Tryd.pinned (.plain (OpenSpec.upto wireStaysSpec)) wireStaysUptoCard

/-- THE SECOND FORM's CARD OF 'tsblocklaw04.WireIsolated'. -/
def wireIsolatedUptoCard : Claim7 := { stood := { row := wireIsolatedUptoRow, standIns := [], harness := (true, "ff409f7e4ce2eed062e61c86c75676d1d8101b155b52a8a4d144e64a6963353b"), looks := false }, kinds := [], alts := [], laidByText := true, laidKinds := [.data], laidTests := true, laidLooks := .later }
def WireIsolatedUptoCardSaid : Prop := Claim7.holds Tryd.pinned (.plain (OpenSpec.upto wireIsolatedSpec)) wireIsolatedUptoCard
end Rows
end Go.Proofs.YtkgghlhmgolfbaaDoor
