/-
  The walk through JournalSteps: at whichever write of a group the power goes off, all or none of it is there.
  Conditions: none.
-/
import Derived.Test.YthojnkdhaoankaaStepsAA
import Derived.Test.YthojnkdhaoankaaStepsAB
import Derived.Test.YthojnkdhaoankaaStepsBA
import Derived.Test.YthojnkdhaoankaaStepsBB
namespace Go.Proofs.Ythojnkdhaoankaa
open Go.RowKit Go.Maps

theorem steps_walk (ao1 ao2 : Option Addr) (len1 cap1 len2 cap2 : Nat) (old next : List UInt8) (w : World) (hl1 : BytesArg w ao1 len1 old) (hl2 : BytesArg w ao2 len2 next) :
    Calls Try.prog 5 #[.slice ao1 len1 cap1, .slice ao2 len2 cap2] w fun e w' => e = .returned (.bool true) ∧ Kept [] w w' := by
  by_cases h1 : old.length ≤ 40
  · by_cases h2 : next.length ≤ 40
    · exact steps_walkAA ao1 ao2 len1 cap1 len2 cap2 old next w hl1 hl2 h1 h2
    · exact steps_walkAB ao1 ao2 len1 cap1 len2 cap2 old next w hl1 hl2 h1 (by omega)
  · by_cases h2 : next.length ≤ 40
    · exact steps_walkBA ao1 ao2 len1 cap1 len2 cap2 old next w hl1 hl2 (by omega) h2
    · exact steps_walkBB ao1 ao2 len1 cap1 len2 cap2 old next w hl1 hl2 (by omega) (by omega)

end Go.Proofs.Ythojnkdhaoankaa
