/-
  What the proofs of layer 3's statements share: a world in which the listed variables hold what the rows list.
  Conditions: none.
-/
import Derived.Test.YtfofhnbijjocfaaGreatDoorRows
import Derived.Test.YtfofhnbijjocfaaGreatDoorCards
import Derived.Test.YtfofhnbijjocfaaGreatDoorTie
import Derived.Test.YtfofhnbijjocfaaGreatDoorLReg
import Derived.WalkKit
import Derived.ProofKit
import Derived.OpenShut
import Derived.ChangeOld
import Derived.Below
import Derived.LaidMore
import Derived.Lay
import Derived.SevenTiedAt
import Derived.Stop.Joined
import Derived.ChangeMaps5
namespace Go.Proofs.YtfofhnbijjocfaaGreatDoor
open Go.ChangeShapes Go.WideShapes Go.ChangeAt Go.RowKit
set_option maxRecDepth 100000

theorem own3 : ownKnob Tryz.prog.godebug = none := by kernel_rfl
theorem laidOut3 : laidOutB Tryz.prog = true := by kernel_rfl
def laid3 : List (String × DataW Unit) := Rows.catalogWritesRow.laid
theorem laid3_fits (os : Os) : (World.holding Tryz.prog os ⟨#[], #[], []⟩).layFits Tryz.prog laid3 [] = true := by kernel_rfl
theorem laid3_ifaces (os : Os) : (World.holding Tryz.prog os ⟨#[], #[], []⟩).layIfaces Tryz.prog laid3 (World.laidAll Tryz.prog os laid3) = true := by kernel_rfl
theorem laid3_plain (w : World) : laidMetH Tryz.prog laid3 w = laidMet Tryz.prog laid3 w := MakeChecks.laidMetH_plain _ _ _ (by kernel_rfl)
theorem laid3_met (os : Os) (args : Array Value) : laidMetH Tryz.prog laid3 ((World.laidAll Tryz.prog os laid3).forCall (fun _ _ => 0) ⟨#[], args, []⟩).memory := by
  rw [laid3_plain]
  exact laidMet_laidAll _ (laid3_fits os) (laid3_ifaces os)
theorem laid3_shaped (os : Os) (args : Array Value) : ((World.laidAll Tryz.prog os laid3).forCall (fun _ _ => 0) ⟨#[], args, []⟩).Shaped Tryz.prog := World.shaped_of_ZipB (by kernel_rfl) (by kernel_rfl)
end Go.Proofs.YtfofhnbijjocfaaGreatDoor
