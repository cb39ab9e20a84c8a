/-
  Layer 11: the piece that the program cuts off a text.
  Conditions: those that each theorem states.
-/
import Derived.Test.YtlbenaodpfhjeaaUSign
import Derived.Laws.ResultCell
namespace Go.Proofs.Ytlbenaodpfhjeaa
open Go.RowKit Go.Maps

def pcA (p : Pc) : Array Value := #[.int .i64 p.kd, .int .i64 p.sz, .int .i64 p.ah, .int .i64 p.bh]
theorem retP {a b c d : Int} {p : Pc} (h1 : a = p.kd) (h2 : b = p.sz) (h3 : c = p.ah) (h4 : d = p.bh) : Ending.returned (.agg #[.int .i64 a, .int .i64 b, .int .i64 c, .int .i64 d]) = .returned (.agg (pcA p)) := by
  subst h1 h2 h3 h4; rfl
theorem four_cells {w : World} {g : Nat} {t : TypeId} {a b c d : Value} (h : w.heap[g]? = some (.cells #[a, b, c, d] t)) :
    w.cell? ⟨g, 0, none⟩ = some a ∧ w.cell? ⟨g, 1, none⟩ = some b ∧ w.cell? ⟨g, 2, none⟩ = some c ∧ w.cell? ⟨g, 3, none⟩ = some d ∧
    w.frozen? ⟨g, 0, none⟩ = false ∧ w.frozen? ⟨g, 1, none⟩ = false ∧ w.frozen? ⟨g, 2, none⟩ = false ∧ w.frozen? ⟨g, 3, none⟩ = false :=
  ⟨cell_of_row _ _ 0 _ _ _ h, cell_of_row _ _ 1 _ _ _ h, cell_of_row _ _ 2 _ _ _ h, cell_of_row _ _ 3 _ _ _ h, frozen_of_row _ _ _ _ _ h, frozen_of_row _ _ _ _ _ h, frozen_of_row _ _ _ _ _ h, frozen_of_row _ _ _ _ _ h⟩
end Go.Proofs.Ytlbenaodpfhjeaa
