/-
  A struct that is stored whole; a struct as a result.
  Conditions: those that each theorem states.
-/
import Derived.Test.YtlbenaodpfhjeaaLReg
import Derived.Laws.ResultCell
namespace Go.Proofs.Ytlbenaodpfhjeaa
open Go.RowKit Go.Maps

theorem results_rowQ {P : Program} {fn : Func} {p u : Tmp} {ty : TypeId} (h : fn.results = #[.cell p ty, .tmp u]) (tmps : Array Value) (w : World) (g : Nat) (t : TypeId) (cs : Array Value) (d : TypeDesc)
    (hp : tmps.getD p undef = .pointer (some ⟨g, 0, none⟩)) (hg : w.heap[g]? = some (.cells cs t)) (hu : P.underlying ty = some d) (hd : d.isRow = true) (hi : (P.info? ty).map (·.size) = some cs.size) :
    (results fn tmps).run P w = .ok (.tuple #[.agg cs, tmps.getD u undef]) w := by
  have hl := run_loadVar_mid (P := P) w g 0 ty cs.toList d (fun j v hv => by rw [Nat.zero_add, cell_of_row w g j _ _ _ hg]; simpa using hv) hu hd (by simpa using hi)
  rw [results_cell_tmp h, hp]
  simp only [asAddr, Sem.run_pure, Result.andThen_ok, hl, Array.toArray_toList]

/-- A struct is stored whole, at the operation. -/
theorem wp_store_cells {P : Program} {o : Oper} {a : Act} {w : World} {K : Act → World → Prop} {Q : Exit → Act → World → Prop} (ty : TypeId) (x y : Operand) (ho : o.op = .store ty x y) (b : Nat) (t : TypeId) (cs new : Array Value)
    (hx : a.eval x = .pointer (some ⟨b, 0, none⟩)) (hy : a.eval y = .agg new) (hg : w.heap[b]? = some (.cells cs t)) (hl : new.size = cs.size) (h1 : ∀ v ∈ new.toList, v.oneCell' = true) (hi : (P.info? ty).map (·.size) = some new.size)
    (h : K (a.put o.dst undef) (w.setRow b new)) : o.wp P a w K Q := by
  have hst : (storeCells ⟨b, 0, none⟩ new.toList 0).run P w = .ok () (w.setRow b new) := by
    rw [run_storeCells_at P b 0 t new.toList 0 cs w hg (by rw [Array.length_toList]; omega) h1]
    have e : ((cs.toList.take (0 + 0) ++ new.toList ++ cs.toList.drop (0 + 0 + new.toList.length)).toArray) = new := by
      apply Array.toList_inj.1
      simp only [Nat.add_zero, Nat.zero_add, List.take_zero, List.nil_append]
      rw [List.drop_of_length_le (by rw [Array.length_toList, Array.length_toList]; omega), List.append_nil]
    rw [e]
  unfold Oper.wp execOp
  cases hq : P.info? ty with
  | none => simp [hq] at hi
  | some i =>
    have hs : new.size = i.size := by simp [hq] at hi; omega
    have : (storeVar ty ⟨b, 0, none⟩ (.agg new)).run P w = .ok () (w.setRow b new) := by
      simp [storeVar, sizeOf, typeInfo, hq, Value.cells, hs, hst]
    simp only [ho, hx, hy, Instr.storeAt, Instr.sureAddr, Sem.run_bind, Sem.run_pure, Result.andThen_ok, this]
    exact h
end Go.Proofs.Ytlbenaodpfhjeaa
