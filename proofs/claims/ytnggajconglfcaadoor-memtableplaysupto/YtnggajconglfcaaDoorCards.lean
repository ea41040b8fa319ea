/-
  DERIVED. GIVEN WITH THE SEED: THE CARDS: each row of YtnggajconglfcaaDoorRows.lean that lists a variable, with what it lists TIED to the program's text (the seventh form; the later family's looks); each row that meets fmt, with fmt's text TOLD by the authors' own Lean function (tested against real Go, not proved from fmt's source: count such statements apart). THE CARD IS WHAT COUNTS. Prove the row's statement (the work); the ties are given (YtnggajconglfcaaDoorTie.lean); close each card by the builder's one call (the guide's Derived/Test/ToyasCard.lean, 'card_holds'). Laid BY PROGRAM, IN A SANDBOX (cutbox-door.mjs). By AI agents, Wed Nov 11 2026. No macro, syntax, notation, axiom, sorry.
-/
import Derived.Test.YtnggajconglfcaaDoorRows
import GoSem.ClaimSeven
namespace Go.Proofs.YtnggajconglfcaaDoor
namespace Rows

/-- THE TIED CARD OF 'staddlelaw08.MemtableNames'. -/
def memtableNamesCard : Claim7 := { stood := { row := memtableNamesRow, standIns := [], harness := (true, "d5ad98288bbcf62b77f546db0fd70ca6a4e8e4f9e582a850744eb377ef867d75"), looks := false }, kinds := [], alts := [], laidByText := true, laidKinds := [.data, .data, .data, .pinned], laidTests := true, laidLooks := .later }
def MemtableNamesCardSaid : Prop := Claim7.holds Tryd.pinned (.plain (OpenSpec.ofChange memtableNamesSpec)) memtableNamesCard

/-- THE TIED CARD OF 'staddlelaw08.MemtablePlays'. -/
def memtablePlaysCard : Claim7 := { stood := { row := memtablePlaysRow, standIns := [], harness := (true, "d5ad98288bbcf62b77f546db0fd70ca6a4e8e4f9e582a850744eb377ef867d75"), looks := false }, kinds := [], alts := [], laidByText := true, laidKinds := [.data, .data, .data, .pinned], laidTests := true, laidLooks := .later }
def MemtablePlaysCardSaid : Prop := Claim7.holds Tryd.pinned (.plain (OpenSpec.ofChange memtablePlaysSpec)) memtablePlaysCard

/-- THE TIED CARD OF 'staddlelaw08.MemtableOrders'. -/
def memtableOrdersCard : Claim7 := { stood := { row := memtableOrdersRow, standIns := [], harness := (true, "d5ad98288bbcf62b77f546db0fd70ca6a4e8e4f9e582a850744eb377ef867d75"), looks := false }, kinds := [], alts := [], laidByText := true, laidKinds := [.data, .data, .data, .pinned], laidTests := true, laidLooks := .later }
def MemtableOrdersCardSaid : Prop := Claim7.holds Tryd.pinned (.plain (OpenSpec.ofChange memtableOrdersSpec)) memtableOrdersCard

/-- THE TIED CARD OF 'staddlelaw08.MemtableStays'. -/
def memtableStaysCard : Claim7 := { stood := { row := memtableStaysRow, standIns := [], harness := (true, "d5ad98288bbcf62b77f546db0fd70ca6a4e8e4f9e582a850744eb377ef867d75"), looks := false }, kinds := [], alts := [], laidByText := true, laidKinds := [.data, .data, .data, .pinned], laidTests := true, laidLooks := .later }
def MemtableStaysCardSaid : Prop := Claim7.holds Tryd.pinned (.plain (OpenSpec.ofChange memtableStaysSpec)) memtableStaysCard

/-- THE TIED CARD OF 'staddlelaw08.MemtableNil'. -/
def memtableNilCard : Claim7 := { stood := { row := memtableNilRow, standIns := [], harness := (true, "d5ad98288bbcf62b77f546db0fd70ca6a4e8e4f9e582a850744eb377ef867d75"), looks := false }, kinds := [], alts := [], laidByText := true, laidKinds := [.data, .data, .data, .pinned], laidTests := true, laidLooks := .later }
def MemtableNilCardSaid : Prop := Claim7.holds Tryd.pinned (.plain (OpenSpec.ofChange memtableNilSpec)) memtableNilCard

/-- THE TIED CARD OF 'staddlelaw08.MemtableSizes'. -/
def memtableSizesCard : Claim7 := { stood := { row := memtableSizesRow, standIns := [], harness := (true, "d5ad98288bbcf62b77f546db0fd70ca6a4e8e4f9e582a850744eb377ef867d75"), looks := false }, kinds := [], alts := [], laidByText := true, laidKinds := [.data, .data, .data, .pinned], laidTests := true, laidLooks := .later }
def MemtableSizesCardSaid : Prop := Claim7.holds Tryd.pinned (.plain (OpenSpec.ofChange memtableSizesSpec)) memtableSizesCard

/-- THE SECOND FORM's CARD OF 'staddlelaw08.MemtableNames'. -/
def memtableNamesUptoCard : Claim7 := { stood := { row := memtableNamesUptoRow, standIns := [], harness := (true, "d5ad98288bbcf62b77f546db0fd70ca6a4e8e4f9e582a850744eb377ef867d75"), looks := false }, kinds := [], alts := [], laidByText := true, laidKinds := [.data, .data, .data, .pinned], laidTests := true, laidLooks := .later }
def MemtableNamesUptoCardSaid : Prop := Claim7.holds Tryd.pinned (.plain (OpenSpec.upto memtableNamesSpec)) memtableNamesUptoCard

/-- THE SECOND FORM's CARD OF 'staddlelaw08.MemtablePlays'. -/
def memtablePlaysUptoCard : Claim7 := { stood := { row := memtablePlaysUptoRow, standIns := [], harness := (true, "d5ad98288bbcf62b77f546db0fd70ca6a4e8e4f9e582a850744eb377ef867d75"), looks := false }, kinds := [], alts := [], laidByText := true, laidKinds := [.data, .data, .data, .pinned], laidTests := true, laidLooks := .later }
def MemtablePlaysUptoCardSaid : Prop := Claim7.holds Tryd.pinned (.plain (OpenSpec.upto memtablePlaysSpec)) memtablePlaysUptoCard

/-- THE SECOND FORM's CARD OF 'staddlelaw08.MemtableOrders'. -/
def memtableOrdersUptoCard : Claim7 := { stood := { row := memtableOrdersUptoRow, standIns := [], harness := (true, "d5ad98288bbcf62b77f546db0fd70ca6a4e8e4f9e582a850744eb377ef867d75"), looks := false }, kinds := [], alts := [], laidByText := true, laidKinds := [.data, .data, .data, .pinned], laidTests := true, laidLooks := .later }
def MemtableOrdersUptoCardSaid : Prop := Claim7.holds Tryd.pinned (.plain (OpenSpec.upto memtableOrdersSpec)) memtableOrdersUptoCard

/-- THE SECOND FORM's CARD OF 'staddlelaw08.MemtableStays'. -/
def memtableStaysUptoCard : Claim7 := { stood := { row := memtableStaysUptoRow, standIns := [], harness := (true, "d5ad98288bbcf62b77f546db0fd70ca6a4e8e4f9e582a850744eb377ef867d75"), looks := false }, kinds := [], alts := [], laidByText := true, laidKinds := [.data, .data, .data, .pinned], laidTests := true, laidLooks := .later }
def MemtableStaysUptoCardSaid : Prop := Claim7.holds Tryd.pinned (.plain (OpenSpec.upto memtableStaysSpec)) memtableStaysUptoCard

/-- THE SECOND FORM's CARD OF 'staddlelaw08.MemtableNil'. -/
def memtableNilUptoCard : Claim7 := { stood := { row := memtableNilUptoRow, standIns := [], harness := (true, "d5ad98288bbcf62b77f546db0fd70ca6a4e8e4f9e582a850744eb377ef867d75"), looks := false }, kinds := [], alts := [], laidByText := true, laidKinds := [.data, .data, .data, .pinned], laidTests := true, laidLooks := .later }
def MemtableNilUptoCardSaid : Prop := Claim7.holds Tryd.pinned (.plain (OpenSpec.upto memtableNilSpec)) memtableNilUptoCard

/-- THE SECOND FORM's CARD OF 'staddlelaw08.MemtableSizes'. -/
def memtableSizesUptoCard : Claim7 := { stood := { row := memtableSizesUptoRow, standIns := [], harness := (true, "d5ad98288bbcf62b77f546db0fd70ca6a4e8e4f9e582a850744eb377ef867d75"), looks := false }, kinds := [], alts := [], laidByText := true, laidKinds := [.data, .data, .data, .pinned], laidTests := true, laidLooks := .later }
def MemtableSizesUptoCardSaid : Prop := Claim7.holds Tryd.pinned (.plain (OpenSpec.upto memtableSizesSpec)) memtableSizesUptoCard
end Rows
end Go.Proofs.YtnggajconglfcaaDoor
