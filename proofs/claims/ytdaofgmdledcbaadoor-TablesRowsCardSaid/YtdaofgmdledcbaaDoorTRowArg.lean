/-
  A row as an argument, opened.
  Conditions: none.
-/
import Derived.Test.YtdaofgmdledcbaaDoorTArgs
namespace Go.Proofs.YtdaofgmdledcbaaDoor
open Go.RowKit Go.ChangeShapes Go.WideShapes Go.Deep

theorem open_rowV {H : Type} {enc : TypeId × Value → H} {w : World} {base b0 : Nat} {r : Reach} {sp : Nat → Bool} {held : Bool} {v : Value} {d : DataW H} {ps : List MemPlace}
    (hv : Value.okWide Tryd.prog w r b0 34 v) (h : DataW.Trod enc Tryd.prog w base sp held 34 v d ps) (hsz : ∀ n ∈ d.weights Tryd.prog 34, n ≤ reachBytes) :
    ∃ (k : List UInt8) (cv : Value) (c : List (List UInt8)), v = rowV k cv ∧ CellsIs w cv c ∧ k.length ≤ 140737488355328 := by
  obtain ⟨cs, rfl, hcs⟩ := okWide_struct Tryd.underlying34 hv
  obtain ⟨fuel, hf⟩ := h
  have hf' : DataW.trod enc Tryd.prog w base sp held fuel 34 cs.toList = some (d, ps) := by simpa [Value.cells] using hf
  obtain ⟨k, cv, c, e, hc, hk⟩ := open_row hf' hsz
  refine ⟨k, cv, c, ?_, hc, hk⟩
  unfold rowV
  congr 1
  apply Array.toList_inj.1
  rw [e]
theorem rows_room {n : Nat} (h : n * 40 ≤ reachBytes) : (n + 1) * 40 ≤ 140737488355328 := by
  have : reachBytes = 140737488351232 := by rfl
  omega
end Go.Proofs.YtdaofgmdledcbaaDoor
