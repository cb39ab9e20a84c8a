/-
  Layer 7: the document's Check: all ways joined.
  Conditions: those that each theorem states.
-/
import Derived.Test.YtfofhnbijjocfaaGreatDoorKRefC2
import Derived.Test.YtfofhnbijjocfaaGreatDoorKRefC3
import Derived.Test.YtfofhnbijjocfaaGreatDoorKRefC4
import Derived.Test.YtfofhnbijjocfaaGreatDoorKRefC5
namespace Go.Proofs.YtfofhnbijjocfaaGreatDoor
open Go.RowKit Go.Maps
set_option maxRecDepth 100000

theorem rcCheck_any (c : Cat) (v : Value) (w : World) (h : CatIs w v c) :
    Calls Tryz.prog 11 #[v] w fun e w' => e = .returned (.int .i64 (checkO c)) ∧ Kept [] w w' := by
  by_cases hg : GoodC c
  case neg => exact rcCheck_head c v w h hg
  by_cases h1 : resL none c.R = 0
  case neg => exact rcCheck_res c v w h hg h1
  cases h2 : blkB c.R
  case true => exact rcCheck_blk c v w h hg h1 h2
  cases h3 : edgB c.R.length c.E
  · exact rcCheck_edg c v w h hg h1 h2 h3
  · exact rcCheck_good c v w h hg h1 h2 h3
end Go.Proofs.YtfofhnbijjocfaaGreatDoor
