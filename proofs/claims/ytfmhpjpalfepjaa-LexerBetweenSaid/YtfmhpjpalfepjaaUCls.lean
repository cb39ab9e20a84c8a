/-
  Layer 11: a rune's class.
  Conditions: those that each theorem states.
-/
import Derived.Test.YtfmhpjpalfepjaaUPure
namespace Go.Proofs.Ytfmhpjpalfepjaa
open Go.RowKit Go.Maps

set_option maxHeartbeats 2000000 in
theorem classOf_any (r : Nat) (w : World) (h1 : r < 2147483648) :
    Calls Try.prog 21 #[.int .i32 r] w fun e w' => e = .returned (.int .i64 (clsN r)) ∧ w = w' := by
  go_enter Try.func21, Try.ntmps21
  go_wp2
  all_goals
    go_ret
    refine ⟨ret1 ?_, rfl⟩
    unfold clsN
    repeat' split
    all_goals first | rfl | (exfalso; omega) | (exfalso; simp only [beq_iff_eq, beq_eq_false_iff_ne, ne_eq] at *; omega)
end Go.Proofs.Ytfmhpjpalfepjaa
