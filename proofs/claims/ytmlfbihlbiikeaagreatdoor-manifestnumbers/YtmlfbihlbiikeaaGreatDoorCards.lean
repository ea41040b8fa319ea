/-
  DERIVED. GIVEN WITH THE SEED: THE CARDS: each row of YtmlfbihlbiikeaaGreatDoorRows.lean that lists a variable, with what it lists TIED to the program's text (the seventh form; the later family's looks); each row that meets fmt, with fmt's text TOLD by the authors' own Lean function (tested against real Go, not proved from fmt's source: count such statements apart). THE CARD IS WHAT COUNTS. Prove the row's statement (the work); the ties are given (YtmlfbihlbiikeaaGreatDoorTie.lean); close each card by the builder's one call (the guide's Derived/Test/ToyasCard.lean, 'card_holds'). Laid BY PROGRAM, IN A SANDBOX (cutbox-door.mjs). By AI agents, Wed Nov 11 2026. No macro, syntax, notation, axiom, sorry.
-/
import Derived.Test.YtmlfbihlbiikeaaGreatDoorRows
import GoSem.ClaimSeven
namespace Go.Proofs.YtmlfbihlbiikeaaGreatDoor
namespace Rows

/-- THE TIED CARD OF 'staddlelaw15.ManifestNumbers'. -/
def manifestNumbersCard : Claim7 := { stood := { row := manifestNumbersRow, standIns := [], harness := (true, "8c37584b60bd8c6412c2a09c3c432ddeeb5d365228df3a256d2e1a5cfbe7fdb0"), looks := true }, kinds := [], alts := [], laidByText := true, laidKinds := [.data, .data, .data, .sentinel, .sentinel], laidTests := true, laidLooks := .later }
def ManifestNumbersCardSaid : Prop := Claim7.holds Tryz.pinned (.plain (OpenSpec.ofChange manifestNumbersSpec)) manifestNumbersCard

/-- THE TIED CARD OF 'staddlelaw15.ManifestNames'. -/
def manifestNamesCard : Claim7 := { stood := { row := manifestNamesRow, standIns := [], harness := (true, "8c37584b60bd8c6412c2a09c3c432ddeeb5d365228df3a256d2e1a5cfbe7fdb0"), looks := true }, kinds := [], alts := [], laidByText := true, laidKinds := [.data, .data, .data, .sentinel, .sentinel], laidTests := true, laidLooks := .later }
def ManifestNamesCardSaid : Prop := Claim7.holds Tryz.pinned (.plain (OpenSpec.ofChange manifestNamesSpec)) manifestNamesCard

/-- THE TIED CARD OF 'staddlelaw15.ManifestLoads'. -/
def manifestLoadsCard : Claim7 := { stood := { row := manifestLoadsRow, standIns := [], harness := (true, "8c37584b60bd8c6412c2a09c3c432ddeeb5d365228df3a256d2e1a5cfbe7fdb0"), looks := true }, kinds := [], alts := [], laidByText := true, laidKinds := [.data, .data, .data, .sentinel, .sentinel], laidTests := true, laidLooks := .later }
def ManifestLoadsCardSaid : Prop := Claim7.holds Tryz.pinned (.plain (OpenSpec.ofChange manifestLoadsSpec)) manifestLoadsCard

/-- THE TIED CARD OF 'staddlelaw15.ManifestWrites'. -/
def manifestWritesCard : Claim7 := { stood := { row := manifestWritesRow, standIns := [], harness := (true, "8c37584b60bd8c6412c2a09c3c432ddeeb5d365228df3a256d2e1a5cfbe7fdb0"), looks := true }, kinds := [], alts := [], laidByText := true, laidKinds := [.data, .data, .data, .sentinel, .sentinel], laidTests := true, laidLooks := .later }
def ManifestWritesCardSaid : Prop := Claim7.holds Tryz.pinned (.plain (OpenSpec.ofChange manifestWritesSpec)) manifestWritesCard

/-- THE TIED CARD OF 'staddlelaw15.ManifestCuts'. -/
def manifestCutsCard : Claim7 := { stood := { row := manifestCutsRow, standIns := [], harness := (true, "8c37584b60bd8c6412c2a09c3c432ddeeb5d365228df3a256d2e1a5cfbe7fdb0"), looks := true }, kinds := [], alts := [], laidByText := true, laidKinds := [.data, .data, .data, .sentinel, .sentinel], laidTests := true, laidLooks := .later }
def ManifestCutsCardSaid : Prop := Claim7.holds Tryz.pinned (.plain (OpenSpec.ofChange manifestCutsSpec)) manifestCutsCard

/-- THE TIED CARD OF 'staddlelaw15.ManifestFails'. -/
def manifestFailsCard : Claim7 := { stood := { row := manifestFailsRow, standIns := [], harness := (true, "8c37584b60bd8c6412c2a09c3c432ddeeb5d365228df3a256d2e1a5cfbe7fdb0"), looks := true }, kinds := [], alts := [], laidByText := true, laidKinds := [.data, .data, .data, .sentinel, .sentinel], laidTests := true, laidLooks := .later }
def ManifestFailsCardSaid : Prop := Claim7.holds Tryz.pinned (.plain (OpenSpec.ofChange manifestFailsSpec)) manifestFailsCard

/-- THE SECOND FORM's CARD OF 'staddlelaw15.ManifestNumbers'. -/
def manifestNumbersUptoCard : Claim7 := { stood := { row := manifestNumbersUptoRow, standIns := [], harness := (true, "8c37584b60bd8c6412c2a09c3c432ddeeb5d365228df3a256d2e1a5cfbe7fdb0"), looks := true }, kinds := [], alts := [], laidByText := true, laidKinds := [.data, .data, .data, .sentinel, .sentinel], laidTests := true, laidLooks := .later }
def ManifestNumbersUptoCardSaid : Prop := Claim7.holds Tryz.pinned (.plain (OpenSpec.upto manifestNumbersSpec)) manifestNumbersUptoCard

/-- THE SECOND FORM's CARD OF 'staddlelaw15.ManifestNames'. -/
def manifestNamesUptoCard : Claim7 := { stood := { row := manifestNamesUptoRow, standIns := [], harness := (true, "8c37584b60bd8c6412c2a09c3c432ddeeb5d365228df3a256d2e1a5cfbe7fdb0"), looks := true }, kinds := [], alts := [], laidByText := true, laidKinds := [.data, .data, .data, .sentinel, .sentinel], laidTests := true, laidLooks := .later }
def ManifestNamesUptoCardSaid : Prop := Claim7.holds Tryz.pinned (.plain (OpenSpec.upto manifestNamesSpec)) manifestNamesUptoCard

/-- THE SECOND FORM's CARD OF 'staddlelaw15.ManifestLoads'. -/
def manifestLoadsUptoCard : Claim7 := { stood := { row := manifestLoadsUptoRow, standIns := [], harness := (true, "8c37584b60bd8c6412c2a09c3c432ddeeb5d365228df3a256d2e1a5cfbe7fdb0"), looks := true }, kinds := [], alts := [], laidByText := true, laidKinds := [.data, .data, .data, .sentinel, .sentinel], laidTests := true, laidLooks := .later }
def ManifestLoadsUptoCardSaid : Prop := Claim7.holds Tryz.pinned (.plain (OpenSpec.upto manifestLoadsSpec)) manifestLoadsUptoCard

/-- THE SECOND FORM's CARD OF 'staddlelaw15.ManifestWrites'. -/
def manifestWritesUptoCard : Claim7 := { stood := { row := manifestWritesUptoRow, standIns := [], harness := (true, "8c37584b60bd8c6412c2a09c3c432ddeeb5d365228df3a256d2e1a5cfbe7fdb0"), looks := true }, kinds := [], alts := [], laidByText := true, laidKinds := [.data, .data, .data, .sentinel, .sentinel], laidTests := true, laidLooks := .later }
def ManifestWritesUptoCardSaid : Prop := Claim7.holds Tryz.pinned (.plain (OpenSpec.upto manifestWritesSpec)) manifestWritesUptoCard

/-- THE SECOND FORM's CARD OF 'staddlelaw15.ManifestCuts'. -/
def manifestCutsUptoCard : Claim7 := { stood := { row := manifestCutsUptoRow, standIns := [], harness := (true, "8c37584b60bd8c6412c2a09c3c432ddeeb5d365228df3a256d2e1a5cfbe7fdb0"), looks := true }, kinds := [], alts := [], laidByText := true, laidKinds := [.data, .data, .data, .sentinel, .sentinel], laidTests := true, laidLooks := .later }
def ManifestCutsUptoCardSaid : Prop := Claim7.holds Tryz.pinned (.plain (OpenSpec.upto manifestCutsSpec)) manifestCutsUptoCard

/-- THE SECOND FORM's CARD OF 'staddlelaw15.ManifestFails'. -/
def manifestFailsUptoCard : Claim7 := { stood := { row := manifestFailsUptoRow, standIns := [], harness := (true, "8c37584b60bd8c6412c2a09c3c432ddeeb5d365228df3a256d2e1a5cfbe7fdb0"), looks := true }, kinds := [], alts := [], laidByText := true, laidKinds := [.data, .data, .data, .sentinel, .sentinel], laidTests := true, laidLooks := .later }
def ManifestFailsUptoCardSaid : Prop := Claim7.holds Tryz.pinned (.plain (OpenSpec.upto manifestFailsSpec)) manifestFailsUptoCard
end Rows
end Go.Proofs.YtmlfbihlbiikeaaGreatDoor
