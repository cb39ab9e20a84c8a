/-
  DERIVED. GIVEN WITH THE SEED: THE CARDS: each row of YtiedoocgbajjjaaGreatDoorRows.lean that lists a variable, with what it lists TIED to the program's text (the seventh form; the later family's looks); each row that meets fmt, with fmt's text TOLD by the authors' own Lean function (tested against real Go, not proved from fmt's source: count such statements apart). THE CARD IS WHAT COUNTS. Prove the row's statement (the work); the ties are given (YtiedoocgbajjjaaGreatDoorTie.lean); close each card by the builder's one call (the guide's Derived/Test/ToyasCard.lean, 'card_holds'). Laid BY PROGRAM, IN A SANDBOX (cutbox-door.mjs). By AI agents, Wed Nov 11 2026. No macro, syntax, notation, axiom, sorry.
-/
import Derived.Test.YtiedoocgbajjjaaGreatDoorRows
import GoSem.ClaimSeven
namespace Go.Proofs.YtiedoocgbajjjaaGreatDoor
namespace Rows

/-- THE TIED CARD OF 'majordomolaw04.BlockfsArgs'. -/
def blockfsArgsCard : Claim7 := { stood := { row := blockfsArgsRow, standIns := [], harness := (true, "ccdc6c7f3b9d052327b51f5276af55085f8944eb8882335ab0bce095e2f2fb6e"), looks := true }, kinds := [], alts := [], laidByText := true, laidKinds := [.data, .pinned], laidTests := true, laidLooks := .later }
def BlockfsArgsCardSaid : Prop := Claim7.holds Tryz.pinned (.plain (OpenSpec.ofChange blockfsArgsSpec)) blockfsArgsCard

/-- THE TIED CARD OF 'majordomolaw04.BlockfsGone'. -/
def blockfsGoneCard : Claim7 := { stood := { row := blockfsGoneRow, standIns := [], harness := (true, "ccdc6c7f3b9d052327b51f5276af55085f8944eb8882335ab0bce095e2f2fb6e"), looks := true }, kinds := [], alts := [], laidByText := true, laidKinds := [.data, .pinned], laidTests := true, laidLooks := .later }
def BlockfsGoneCardSaid : Prop := Claim7.holds Tryz.pinned (.plain (OpenSpec.ofChange blockfsGoneSpec)) blockfsGoneCard

/-- THE TIED CARD OF 'majordomolaw04.BlockfsApart'. -/
def blockfsApartCard : Claim7 := { stood := { row := blockfsApartRow, standIns := [], harness := (true, "ccdc6c7f3b9d052327b51f5276af55085f8944eb8882335ab0bce095e2f2fb6e"), looks := true }, kinds := [], alts := [], laidByText := true, laidKinds := [.data, .pinned], laidTests := true, laidLooks := .later }
def BlockfsApartCardSaid : Prop := Claim7.holds Tryz.pinned (.plain (OpenSpec.ofChange blockfsApartSpec)) blockfsApartCard

/-- THE TIED CARD OF 'majordomolaw04.BlockfsRoom'. -/
def blockfsRoomCard : Claim7 := { stood := { row := blockfsRoomRow, standIns := [], harness := (true, "ccdc6c7f3b9d052327b51f5276af55085f8944eb8882335ab0bce095e2f2fb6e"), looks := true }, kinds := [], alts := [], laidByText := true, laidKinds := [.data, .pinned], laidTests := true, laidLooks := .later }
def BlockfsRoomCardSaid : Prop := Claim7.holds Tryz.pinned (.plain (OpenSpec.ofChange blockfsRoomSpec)) blockfsRoomCard

/-- THE TIED CARD OF 'majordomolaw04.BlockfsOrder'. -/
def blockfsOrderCard : Claim7 := { stood := { row := blockfsOrderRow, standIns := [], harness := (true, "ccdc6c7f3b9d052327b51f5276af55085f8944eb8882335ab0bce095e2f2fb6e"), looks := true }, kinds := [], alts := [], laidByText := true, laidKinds := [.data, .pinned], laidTests := true, laidLooks := .later }
def BlockfsOrderCardSaid : Prop := Claim7.holds Tryz.pinned (.plain (OpenSpec.ofChange blockfsOrderSpec)) blockfsOrderCard

/-- THE TIED CARD OF 'majordomolaw04.BlockfsNew'. -/
def blockfsNewCard : Claim7 := { stood := { row := blockfsNewRow, standIns := [], harness := (true, "ccdc6c7f3b9d052327b51f5276af55085f8944eb8882335ab0bce095e2f2fb6e"), looks := true }, kinds := [], alts := [], laidByText := true, laidKinds := [.data, .pinned], laidTests := true, laidLooks := .later }
def BlockfsNewCardSaid : Prop := Claim7.holds Tryz.pinned (.plain (OpenSpec.ofChange blockfsNewSpec)) blockfsNewCard

/-- THE SECOND FORM's CARD OF 'majordomolaw04.BlockfsArgs'. -/
def blockfsArgsUptoCard : Claim7 := { stood := { row := blockfsArgsUptoRow, standIns := [], harness := (true, "ccdc6c7f3b9d052327b51f5276af55085f8944eb8882335ab0bce095e2f2fb6e"), looks := true }, kinds := [], alts := [], laidByText := true, laidKinds := [.data, .pinned], laidTests := true, laidLooks := .later }
def BlockfsArgsUptoCardSaid : Prop := Claim7.holds Tryz.pinned (.plain (OpenSpec.upto blockfsArgsSpec)) blockfsArgsUptoCard

/-- THE SECOND FORM's CARD OF 'majordomolaw04.BlockfsGone'. -/
def blockfsGoneUptoCard : Claim7 := { stood := { row := blockfsGoneUptoRow, standIns := [], harness := (true, "ccdc6c7f3b9d052327b51f5276af55085f8944eb8882335ab0bce095e2f2fb6e"), looks := true }, kinds := [], alts := [], laidByText := true, laidKinds := [.data, .pinned], laidTests := true, laidLooks := .later }
def BlockfsGoneUptoCardSaid : Prop := Claim7.holds Tryz.pinned (.plain (OpenSpec.upto blockfsGoneSpec)) blockfsGoneUptoCard

/-- THE SECOND FORM's CARD OF 'majordomolaw04.BlockfsApart'. -/
def blockfsApartUptoCard : Claim7 := { stood := { row := blockfsApartUptoRow, standIns := [], harness := (true, "ccdc6c7f3b9d052327b51f5276af55085f8944eb8882335ab0bce095e2f2fb6e"), looks := true }, kinds := [], alts := [], laidByText := true, laidKinds := [.data, .pinned], laidTests := true, laidLooks := .later }
def BlockfsApartUptoCardSaid : Prop := Claim7.holds Tryz.pinned (.plain (OpenSpec.upto blockfsApartSpec)) blockfsApartUptoCard

/-- THE SECOND FORM's CARD OF 'majordomolaw04.BlockfsRoom'. -/
def blockfsRoomUptoCard : Claim7 := { stood := { row := blockfsRoomUptoRow, standIns := [], harness := (true, "ccdc6c7f3b9d052327b51f5276af55085f8944eb8882335ab0bce095e2f2fb6e"), looks := true }, kinds := [], alts := [], laidByText := true, laidKinds := [.data, .pinned], laidTests := true, laidLooks := .later }
def BlockfsRoomUptoCardSaid : Prop := Claim7.holds Tryz.pinned (.plain (OpenSpec.upto blockfsRoomSpec)) blockfsRoomUptoCard

/-- THE SECOND FORM's CARD OF 'majordomolaw04.BlockfsOrder'. -/
def blockfsOrderUptoCard : Claim7 := { stood := { row := blockfsOrderUptoRow, standIns := [], harness := (true, "ccdc6c7f3b9d052327b51f5276af55085f8944eb8882335ab0bce095e2f2fb6e"), looks := true }, kinds := [], alts := [], laidByText := true, laidKinds := [.data, .pinned], laidTests := true, laidLooks := .later }
def BlockfsOrderUptoCardSaid : Prop := Claim7.holds Tryz.pinned (.plain (OpenSpec.upto blockfsOrderSpec)) blockfsOrderUptoCard

/-- THE SECOND FORM's CARD OF 'majordomolaw04.BlockfsNew'. -/
def blockfsNewUptoCard : Claim7 := { stood := { row := blockfsNewUptoRow, standIns := [], harness := (true, "ccdc6c7f3b9d052327b51f5276af55085f8944eb8882335ab0bce095e2f2fb6e"), looks := true }, kinds := [], alts := [], laidByText := true, laidKinds := [.data, .pinned], laidTests := true, laidLooks := .later }
def BlockfsNewUptoCardSaid : Prop := Claim7.holds Tryz.pinned (.plain (OpenSpec.upto blockfsNewSpec)) blockfsNewUptoCard
end Rows
end Go.Proofs.YtiedoocgbajjjaaGreatDoor
