/-
  DERIVED. GIVEN WITH THE SEED: THE CARDS: each row of YtbggmeilkfpbgaaDoorRows.lean that lists a variable, with what it lists TIED to the program's text (the seventh form; the later family's looks); each row that meets fmt, with fmt's text TOLD by the authors' own Lean function (tested against real Go, not proved from fmt's source: count such statements apart). THE CARD IS WHAT COUNTS. Prove the row's statement (the work); the ties are given (YtbggmeilkfpbgaaDoorTie.lean); close each card by the builder's one call (the guide's Derived/Test/ToyasCard.lean, 'card_holds'). Laid BY PROGRAM, IN A SANDBOX (cutbox-door.mjs). By AI agents, Wed Nov 11 2026. No macro, syntax, notation, axiom, sorry.
-/
import Derived.Test.YtbggmeilkfpbgaaDoorRows
import GoSem.ClaimSeven
namespace Go.Proofs.YtbggmeilkfpbgaaDoor
namespace Rows

/-- THE TIED CARD OF 'majordomolaw03.LayoutTakes'. -/
def layoutTakesCard : Claim7 := { stood := { row := layoutTakesRow, standIns := [], harness := (true, "f931553c598ec61d3588b544d34e9f6e89c70f8a7546c987a7579dc2a73238d0"), looks := false }, kinds := [], alts := [], laidByText := true, laidKinds := [.data, .pinned], laidTests := true, laidLooks := .later }
def LayoutTakesCardSaid : Prop := Claim7.holds Tryd.pinned (.plain (OpenSpec.ofChange layoutTakesSpec)) layoutTakesCard

/-- THE TIED CARD OF 'majordomolaw03.LayoutEntries'. -/
def layoutEntriesCard : Claim7 := { stood := { row := layoutEntriesRow, standIns := [], harness := (true, "f931553c598ec61d3588b544d34e9f6e89c70f8a7546c987a7579dc2a73238d0"), looks := false }, kinds := [], alts := [], laidByText := true, laidKinds := [.data, .pinned], laidTests := true, laidLooks := .later }
def LayoutEntriesCardSaid : Prop := Claim7.holds Tryd.pinned (.plain (OpenSpec.ofChange layoutEntriesSpec)) layoutEntriesCard

/-- THE SECOND FORM's CARD OF 'majordomolaw03.LayoutTakes'. -/
def layoutTakesUptoCard : Claim7 := { stood := { row := layoutTakesUptoRow, standIns := [], harness := (true, "f931553c598ec61d3588b544d34e9f6e89c70f8a7546c987a7579dc2a73238d0"), looks := false }, kinds := [], alts := [], laidByText := true, laidKinds := [.data, .pinned], laidTests := true, laidLooks := .later }
def LayoutTakesUptoCardSaid : Prop := Claim7.holds Tryd.pinned (.plain (OpenSpec.upto layoutTakesSpec)) layoutTakesUptoCard

/-- THE SECOND FORM's CARD OF 'majordomolaw03.LayoutEntries'. -/
def layoutEntriesUptoCard : Claim7 := { stood := { row := layoutEntriesUptoRow, standIns := [], harness := (true, "f931553c598ec61d3588b544d34e9f6e89c70f8a7546c987a7579dc2a73238d0"), looks := false }, kinds := [], alts := [], laidByText := true, laidKinds := [.data, .pinned], laidTests := true, laidLooks := .later }
def LayoutEntriesUptoCardSaid : Prop := Claim7.holds Tryd.pinned (.plain (OpenSpec.upto layoutEntriesSpec)) layoutEntriesUptoCard
end Rows
end Go.Proofs.YtbggmeilkfpbgaaDoor
