/-
  DERIVED. GIVEN WITH THE SEED: THE CARDS: each row of YthpfnkanilfohaaDoorRows.lean that lists a variable, with what it lists TIED to the program's text (the seventh form; the later family's looks); each row that meets fmt, with fmt's text TOLD by the authors' own Lean function (tested against real Go, not proved from fmt's source: count such statements apart). THE CARD IS WHAT COUNTS. Prove the row's statement (the work); the ties are given (YthpfnkanilfohaaDoorTie.lean); close each card by the builder's one call (the guide's Derived/Test/ToyasCard.lean, 'card_holds'). Laid BY PROGRAM, IN A SANDBOX (cutbox-door.mjs). By AI agents, Wed Nov 11 2026. No macro, syntax, notation, axiom, sorry.
-/
import Derived.Test.YthpfnkanilfohaaDoorRows
import GoSem.ClaimSeven
namespace Go.Proofs.YthpfnkanilfohaaDoor
namespace Rows

/-- THE TIED CARD OF 'majordomolaw06.ResourceChecks'. -/
def resourceChecksCard : Claim7 := { stood := { row := resourceChecksRow, standIns := [], harness := (true, "c028dd0b03ccf9e5418b3bd4a4ea277699be3f24280cedf0fab3d1f7171d887e"), looks := false }, kinds := [], alts := [], laidByText := true, laidKinds := [.data, .pinned], laidTests := true, laidLooks := .later }
def ResourceChecksCardSaid : Prop := Claim7.holds Tryd.pinned (.plain (OpenSpec.ofChange resourceChecksSpec)) resourceChecksCard

/-- THE TIED CARD OF 'majordomolaw06.ResourceFull'. -/
def resourceFullCard : Claim7 := { stood := { row := resourceFullRow, standIns := [], harness := (true, "c028dd0b03ccf9e5418b3bd4a4ea277699be3f24280cedf0fab3d1f7171d887e"), looks := false }, kinds := [], alts := [], laidByText := true, laidKinds := [.data, .pinned], laidTests := true, laidLooks := .later }
def ResourceFullCardSaid : Prop := Claim7.holds Tryd.pinned (.plain (OpenSpec.ofChange resourceFullSpec)) resourceFullCard

/-- THE TIED CARD OF 'majordomolaw06.ResourceNames'. -/
def resourceNamesCard : Claim7 := { stood := { row := resourceNamesRow, standIns := [], harness := (true, "c028dd0b03ccf9e5418b3bd4a4ea277699be3f24280cedf0fab3d1f7171d887e"), looks := false }, kinds := [], alts := [], laidByText := true, laidKinds := [.data, .pinned], laidTests := true, laidLooks := .later }
def ResourceNamesCardSaid : Prop := Claim7.holds Tryd.pinned (.plain (OpenSpec.ofChange resourceNamesSpec)) resourceNamesCard

/-- THE TIED CARD OF 'majordomolaw06.ResourceEnsures'. -/
def resourceEnsuresCard : Claim7 := { stood := { row := resourceEnsuresRow, standIns := [], harness := (true, "c028dd0b03ccf9e5418b3bd4a4ea277699be3f24280cedf0fab3d1f7171d887e"), looks := false }, kinds := [], alts := [], laidByText := true, laidKinds := [.data, .pinned], laidTests := true, laidLooks := .later }
def ResourceEnsuresCardSaid : Prop := Claim7.holds Tryd.pinned (.plain (OpenSpec.ofChange resourceEnsuresSpec)) resourceEnsuresCard

/-- THE TIED CARD OF 'majordomolaw06.ResourceTold'. -/
def resourceToldCard : Claim7 := { stood := { row := resourceToldRow, standIns := [], harness := (true, "c028dd0b03ccf9e5418b3bd4a4ea277699be3f24280cedf0fab3d1f7171d887e"), looks := false }, kinds := [], alts := [], laidByText := true, laidKinds := [.data, .pinned], laidTests := true, laidLooks := .later }
def ResourceToldCardSaid : Prop := Claim7.holds Tryd.pinned (.plain (OpenSpec.ofChange resourceToldSpec)) resourceToldCard

/-- THE SECOND FORM's CARD OF 'majordomolaw06.ResourceChecks'. -/
def resourceChecksUptoCard : Claim7 := { stood := { row := resourceChecksUptoRow, standIns := [], harness := (true, "c028dd0b03ccf9e5418b3bd4a4ea277699be3f24280cedf0fab3d1f7171d887e"), looks := false }, kinds := [], alts := [], laidByText := true, laidKinds := [.data, .pinned], laidTests := true, laidLooks := .later }
def ResourceChecksUptoCardSaid : Prop := Claim7.holds Tryd.pinned (.plain (OpenSpec.upto resourceChecksSpec)) resourceChecksUptoCard

/-- THE SECOND FORM's CARD OF 'majordomolaw06.ResourceFull'. -/
def resourceFullUptoCard : Claim7 := { stood := { row := resourceFullUptoRow, standIns := [], harness := (true, "c028dd0b03ccf9e5418b3bd4a4ea277699be3f24280cedf0fab3d1f7171d887e"), looks := false }, kinds := [], alts := [], laidByText := true, laidKinds := [.data, .pinned], laidTests := true, laidLooks := .later }
def ResourceFullUptoCardSaid : Prop := Claim7.holds Tryd.pinned (.plain (OpenSpec.upto resourceFullSpec)) resourceFullUptoCard

/-- THE SECOND FORM's CARD OF 'majordomolaw06.ResourceNames'. -/
def resourceNamesUptoCard : Claim7 := { stood := { row := resourceNamesUptoRow, standIns := [], harness := (true, "c028dd0b03ccf9e5418b3bd4a4ea277699be3f24280cedf0fab3d1f7171d887e"), looks := false }, kinds := [], alts := [], laidByText := true, laidKinds := [.data, .pinned], laidTests := true, laidLooks := .later }
def ResourceNamesUptoCardSaid : Prop := Claim7.holds Tryd.pinned (.plain (OpenSpec.upto resourceNamesSpec)) resourceNamesUptoCard

/-- THE SECOND FORM's CARD OF 'majordomolaw06.ResourceEnsures'. -/
def resourceEnsuresUptoCard : Claim7 := { stood := { row := resourceEnsuresUptoRow, standIns := [], harness := (true, "c028dd0b03ccf9e5418b3bd4a4ea277699be3f24280cedf0fab3d1f7171d887e"), looks := false }, kinds := [], alts := [], laidByText := true, laidKinds := [.data, .pinned], laidTests := true, laidLooks := .later }
def ResourceEnsuresUptoCardSaid : Prop := Claim7.holds Tryd.pinned (.plain (OpenSpec.upto resourceEnsuresSpec)) resourceEnsuresUptoCard

/-- THE SECOND FORM's CARD OF 'majordomolaw06.ResourceTold'. -/
def resourceToldUptoCard : Claim7 := { stood := { row := resourceToldUptoRow, standIns := [], harness := (true, "c028dd0b03ccf9e5418b3bd4a4ea277699be3f24280cedf0fab3d1f7171d887e"), looks := false }, kinds := [], alts := [], laidByText := true, laidKinds := [.data, .pinned], laidTests := true, laidLooks := .later }
def ResourceToldUptoCardSaid : Prop := Claim7.holds Tryd.pinned (.plain (OpenSpec.upto resourceToldSpec)) resourceToldUptoCard
end Rows
end Go.Proofs.YthpfnkanilfohaaDoor
