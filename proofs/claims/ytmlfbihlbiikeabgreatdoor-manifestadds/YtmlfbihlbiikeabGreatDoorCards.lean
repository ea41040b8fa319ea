/-
  DERIVED. GIVEN WITH THE SEED: THE CARDS: each row of YtmlfbihlbiikeabGreatDoorRows.lean that lists a variable, with what it lists TIED to the program's text (the seventh form; the later family's looks); each row that meets fmt, with fmt's text TOLD by the authors' own Lean function (tested against real Go, not proved from fmt's source: count such statements apart). THE CARD IS WHAT COUNTS. Prove the row's statement (the work); the ties are given (YtmlfbihlbiikeabGreatDoorTie.lean); close each card by the builder's one call (the guide's Derived/Test/ToyasCard.lean, 'card_holds'). Laid BY PROGRAM, IN A SANDBOX (cutbox-door.mjs). By AI agents, Wed Nov 11 2026. No macro, syntax, notation, axiom, sorry.
-/
import Derived.Test.YtmlfbihlbiikeabGreatDoorRows
import GoSem.ClaimSeven
namespace Go.Proofs.YtmlfbihlbiikeabGreatDoor
namespace Rows

/-- THE TIED CARD OF 'staddlelaw15.ManifestLays'. -/
def manifestLaysCard : Claim7 := { stood := { row := manifestLaysRow, standIns := [], harness := (true, "659badab6a3bbdb1fe445ba3cd944507cf9f407055e7b1375f95044c27fc8d8e"), looks := true }, kinds := [], alts := [], laidByText := true, laidKinds := [.data, .data, .data, .sentinel, .sentinel], laidTests := true, laidLooks := .later }
def ManifestLaysCardSaid : Prop := Claim7.holds Tryz.pinned (.plain (OpenSpec.ofChange manifestLaysSpec)) manifestLaysCard

/-- THE TIED CARD OF 'staddlelaw15.ManifestNil'. -/
def manifestNilCard : Claim7 := { stood := { row := manifestNilRow, standIns := [], harness := (true, "659badab6a3bbdb1fe445ba3cd944507cf9f407055e7b1375f95044c27fc8d8e"), looks := true }, kinds := [], alts := [], laidByText := true, laidKinds := [.data, .data, .data, .sentinel, .sentinel], laidTests := true, laidLooks := .later }
def ManifestNilCardSaid : Prop := Claim7.holds Tryz.pinned (.plain (OpenSpec.ofChange manifestNilSpec)) manifestNilCard

/-- THE TIED CARD OF 'staddlelaw15.ManifestAdds'. -/
def manifestAddsCard : Claim7 := { stood := { row := manifestAddsRow, standIns := [], harness := (true, "659badab6a3bbdb1fe445ba3cd944507cf9f407055e7b1375f95044c27fc8d8e"), looks := true }, kinds := [], alts := [], laidByText := true, laidKinds := [.data, .data, .data, .sentinel, .sentinel], laidTests := true, laidLooks := .later }
def ManifestAddsCardSaid : Prop := Claim7.holds Tryz.pinned (.plain (OpenSpec.ofChange manifestAddsSpec)) manifestAddsCard

/-- THE SECOND FORM's CARD OF 'staddlelaw15.ManifestLays'. -/
def manifestLaysUptoCard : Claim7 := { stood := { row := manifestLaysUptoRow, standIns := [], harness := (true, "659badab6a3bbdb1fe445ba3cd944507cf9f407055e7b1375f95044c27fc8d8e"), looks := true }, kinds := [], alts := [], laidByText := true, laidKinds := [.data, .data, .data, .sentinel, .sentinel], laidTests := true, laidLooks := .later }
def ManifestLaysUptoCardSaid : Prop := Claim7.holds Tryz.pinned (.plain (OpenSpec.upto manifestLaysSpec)) manifestLaysUptoCard

/-- THE SECOND FORM's CARD OF 'staddlelaw15.ManifestNil'. -/
def manifestNilUptoCard : Claim7 := { stood := { row := manifestNilUptoRow, standIns := [], harness := (true, "659badab6a3bbdb1fe445ba3cd944507cf9f407055e7b1375f95044c27fc8d8e"), looks := true }, kinds := [], alts := [], laidByText := true, laidKinds := [.data, .data, .data, .sentinel, .sentinel], laidTests := true, laidLooks := .later }
def ManifestNilUptoCardSaid : Prop := Claim7.holds Tryz.pinned (.plain (OpenSpec.upto manifestNilSpec)) manifestNilUptoCard

/-- THE SECOND FORM's CARD OF 'staddlelaw15.ManifestAdds'. -/
def manifestAddsUptoCard : Claim7 := { stood := { row := manifestAddsUptoRow, standIns := [], harness := (true, "659badab6a3bbdb1fe445ba3cd944507cf9f407055e7b1375f95044c27fc8d8e"), looks := true }, kinds := [], alts := [], laidByText := true, laidKinds := [.data, .data, .data, .sentinel, .sentinel], laidTests := true, laidLooks := .later }
def ManifestAddsUptoCardSaid : Prop := Claim7.holds Tryz.pinned (.plain (OpenSpec.upto manifestAddsSpec)) manifestAddsUptoCard
end Rows
end Go.Proofs.YtmlfbihlbiikeabGreatDoor
