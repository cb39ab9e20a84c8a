/-
  DERIVED. GIVEN WITH THE SEED: THE CARDS: each row of YtfofhnbijjocfaaGreatDoorRows.lean that lists a variable, with what it lists TIED to the program's text (the seventh form; the later family's looks); each row that meets fmt, with fmt's text TOLD by the authors' own Lean function (tested against real Go, not proved from fmt's source: count such statements apart). THE CARD IS WHAT COUNTS. Prove the row's statement (the work); the ties are given (YtfofhnbijjocfaaGreatDoorTie.lean); close each card by the builder's one call (the guide's Derived/Test/ToyasCard.lean, 'card_holds'). Laid BY PROGRAM, IN A SANDBOX (cutbox-door.mjs). By AI agents, Wed Nov 11 2026. No macro, syntax, notation, axiom, sorry.
-/
import Derived.Test.YtfofhnbijjocfaaGreatDoorRows
import GoSem.ClaimSeven
namespace Go.Proofs.YtfofhnbijjocfaaGreatDoor
namespace Rows

/-- THE TIED CARD OF 'majordomolaw07.CatalogWrites'. -/
def catalogWritesCard : Claim7 := { stood := { row := catalogWritesRow, standIns := [], harness := (true, "6a844f3a86d2d56df361f4c8acff71f18d706820a5f7666a337a51b83adcd20a"), looks := true }, kinds := [], alts := [], laidByText := true, laidKinds := [.data, .data, .pinned], laidTests := true, laidLooks := .later }
def CatalogWritesCardSaid : Prop := Claim7.holds Tryz.pinned (.plain (OpenSpec.ofChange catalogWritesSpec)) catalogWritesCard

/-- THE TIED CARD OF 'majordomolaw07.CatalogReads'. -/
def catalogReadsCard : Claim7 := { stood := { row := catalogReadsRow, standIns := [], harness := (true, "6a844f3a86d2d56df361f4c8acff71f18d706820a5f7666a337a51b83adcd20a"), looks := true }, kinds := [], alts := [], laidByText := true, laidKinds := [.data, .data, .pinned], laidTests := true, laidLooks := .later }
def CatalogReadsCardSaid : Prop := Claim7.holds Tryz.pinned (.plain (OpenSpec.ofChange catalogReadsSpec)) catalogReadsCard

/-- THE SECOND FORM's CARD OF 'majordomolaw07.CatalogWrites'. -/
def catalogWritesUptoCard : Claim7 := { stood := { row := catalogWritesUptoRow, standIns := [], harness := (true, "6a844f3a86d2d56df361f4c8acff71f18d706820a5f7666a337a51b83adcd20a"), looks := true }, kinds := [], alts := [], laidByText := true, laidKinds := [.data, .data, .pinned], laidTests := true, laidLooks := .later }
def CatalogWritesUptoCardSaid : Prop := Claim7.holds Tryz.pinned (.plain (OpenSpec.upto catalogWritesSpec)) catalogWritesUptoCard

/-- THE SECOND FORM's CARD OF 'majordomolaw07.CatalogReads'. -/
def catalogReadsUptoCard : Claim7 := { stood := { row := catalogReadsUptoRow, standIns := [], harness := (true, "6a844f3a86d2d56df361f4c8acff71f18d706820a5f7666a337a51b83adcd20a"), looks := true }, kinds := [], alts := [], laidByText := true, laidKinds := [.data, .data, .pinned], laidTests := true, laidLooks := .later }
def CatalogReadsUptoCardSaid : Prop := Claim7.holds Tryz.pinned (.plain (OpenSpec.upto catalogReadsSpec)) catalogReadsUptoCard
end Rows
end Go.Proofs.YtfofhnbijjocfaaGreatDoor
