/-
  DERIVED. GIVEN WITH THE SEED: THE CARDS: each row of YteanhjfdpjekbaaDoorRows.lean that lists a variable, with what it lists TIED to the program's text (the seventh form; the later family's looks); each row that meets fmt, with fmt's text TOLD by the authors' own Lean function (tested against real Go, not proved from fmt's source: count such statements apart). THE CARD IS WHAT COUNTS. Prove the row's statement (the work); the ties are given (YteanhjfdpjekbaaDoorTie.lean); close each card by the builder's one call (the guide's Derived/Test/ToyasCard.lean, 'card_holds'). Laid BY PROGRAM, IN A SANDBOX (cutbox-door.mjs). By AI agents, Wed Nov 11 2026. No macro, syntax, notation, axiom, sorry.
-/
import Derived.Test.YteanhjfdpjekbaaDoorRows
import GoSem.ClaimSeven
namespace Go.Proofs.YteanhjfdpjekbaaDoor
namespace Rows

/-- THE TIED CARD OF 'majordomolaw07.CatalogFinds'. -/
def catalogFindsCard : Claim7 := { stood := { row := catalogFindsRow, standIns := [], harness := (true, "9207bebfc31cafef4677920f56d73e85162574f03dac1aaae83ab784ada109ca"), looks := true }, kinds := [], alts := [], laidByText := true, laidKinds := [.data, .data, .pinned], laidTests := true, laidLooks := .later }
def CatalogFindsCardSaid : Prop := Claim7.holds Tryd.pinned (.plain (OpenSpec.ofChange catalogFindsSpec)) catalogFindsCard

/-- THE TIED CARD OF 'majordomolaw07.CatalogUnlike'. -/
def catalogUnlikeCard : Claim7 := { stood := { row := catalogUnlikeRow, standIns := [], harness := (true, "9207bebfc31cafef4677920f56d73e85162574f03dac1aaae83ab784ada109ca"), looks := true }, kinds := [], alts := [], laidByText := true, laidKinds := [.data, .data, .pinned], laidTests := true, laidLooks := .later }
def CatalogUnlikeCardSaid : Prop := Claim7.holds Tryd.pinned (.plain (OpenSpec.ofChange catalogUnlikeSpec)) catalogUnlikeCard

/-- THE TIED CARD OF 'majordomolaw07.CatalogCuts'. -/
def catalogCutsCard : Claim7 := { stood := { row := catalogCutsRow, standIns := [], harness := (true, "9207bebfc31cafef4677920f56d73e85162574f03dac1aaae83ab784ada109ca"), looks := true }, kinds := [], alts := [], laidByText := true, laidKinds := [.data, .data, .pinned], laidTests := true, laidLooks := .later }
def CatalogCutsCardSaid : Prop := Claim7.holds Tryd.pinned (.plain (OpenSpec.ofChange catalogCutsSpec)) catalogCutsCard

/-- THE TIED CARD OF 'majordomolaw07.CatalogSwaps'. -/
def catalogSwapsCard : Claim7 := { stood := { row := catalogSwapsRow, standIns := [], harness := (true, "9207bebfc31cafef4677920f56d73e85162574f03dac1aaae83ab784ada109ca"), looks := true }, kinds := [], alts := [], laidByText := true, laidKinds := [.data, .data, .pinned], laidTests := true, laidLooks := .later }
def CatalogSwapsCardSaid : Prop := Claim7.holds Tryd.pinned (.plain (OpenSpec.ofChange catalogSwapsSpec)) catalogSwapsCard

/-- THE SECOND FORM's CARD OF 'majordomolaw07.CatalogFinds'. -/
def catalogFindsUptoCard : Claim7 := { stood := { row := catalogFindsUptoRow, standIns := [], harness := (true, "9207bebfc31cafef4677920f56d73e85162574f03dac1aaae83ab784ada109ca"), looks := true }, kinds := [], alts := [], laidByText := true, laidKinds := [.data, .data, .pinned], laidTests := true, laidLooks := .later }
def CatalogFindsUptoCardSaid : Prop := Claim7.holds Tryd.pinned (.plain (OpenSpec.upto catalogFindsSpec)) catalogFindsUptoCard

/-- THE SECOND FORM's CARD OF 'majordomolaw07.CatalogUnlike'. -/
def catalogUnlikeUptoCard : Claim7 := { stood := { row := catalogUnlikeUptoRow, standIns := [], harness := (true, "9207bebfc31cafef4677920f56d73e85162574f03dac1aaae83ab784ada109ca"), looks := true }, kinds := [], alts := [], laidByText := true, laidKinds := [.data, .data, .pinned], laidTests := true, laidLooks := .later }
def CatalogUnlikeUptoCardSaid : Prop := Claim7.holds Tryd.pinned (.plain (OpenSpec.upto catalogUnlikeSpec)) catalogUnlikeUptoCard

/-- THE SECOND FORM's CARD OF 'majordomolaw07.CatalogCuts'. -/
def catalogCutsUptoCard : Claim7 := { stood := { row := catalogCutsUptoRow, standIns := [], harness := (true, "9207bebfc31cafef4677920f56d73e85162574f03dac1aaae83ab784ada109ca"), looks := true }, kinds := [], alts := [], laidByText := true, laidKinds := [.data, .data, .pinned], laidTests := true, laidLooks := .later }
def CatalogCutsUptoCardSaid : Prop := Claim7.holds Tryd.pinned (.plain (OpenSpec.upto catalogCutsSpec)) catalogCutsUptoCard

/-- THE SECOND FORM's CARD OF 'majordomolaw07.CatalogSwaps'. -/
def catalogSwapsUptoCard : Claim7 := { stood := { row := catalogSwapsUptoRow, standIns := [], harness := (true, "9207bebfc31cafef4677920f56d73e85162574f03dac1aaae83ab784ada109ca"), looks := true }, kinds := [], alts := [], laidByText := true, laidKinds := [.data, .data, .pinned], laidTests := true, laidLooks := .later }
def CatalogSwapsUptoCardSaid : Prop := Claim7.holds Tryd.pinned (.plain (OpenSpec.upto catalogSwapsSpec)) catalogSwapsUptoCard
end Rows
end Go.Proofs.YteanhjfdpjekbaaDoor
