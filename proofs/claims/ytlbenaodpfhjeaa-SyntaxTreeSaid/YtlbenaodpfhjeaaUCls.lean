/-
  Layer 11: a rune's class.
  Conditions: those that each theorem states.
-/
import Derived.Test.YtlbenaodpfhjeaaUPure
namespace Go.Proofs.Ytlbenaodpfhjeaa
open Go.RowKit Go.Maps

end Go.Proofs.Ytlbenaodpfhjeaa
