/-
  A slice of bytes as an argument, opened: what it reads as, and that it is no longer than what the reading holds.
  Conditions: none.
-/
import Derived.Test.YtdaofgmdledcbaaDoorRows
import Derived.Test.YtdaofgmdledcbaaDoorBytesArg
import Derived.Test.YtdaofgmdledcbaaDoorTArgs
import Derived.ChangeSlices
namespace Go.Proofs.YtdaofgmdledcbaaDoor
open Go.RowKit Go.ChangeShapes Go.WideShapes Go.Deep

theorem bulk_one {H : Type} (d : DataW H) : 1 ≤ Rows.uptoBulk d := by
  cases d with
  | lit l => cases l <;> simp [Rows.uptoBulk]
  | nil => simp [Rows.uptoBulk]
  | ptr d => simp [Rows.uptoBulk]
  | slice a b => simp [Rows.uptoBulk]
  | agg l => simp [Rows.uptoBulk]
  | iface t d => simp [Rows.uptoBulk]
  | map l => simp [Rows.uptoBulk]
  | held h => simp [Rows.uptoBulk]
theorem bulk_count {H : Type} : ∀ (l : List (DataW H)), l.length ≤ Rows.uptoBulkAll l
  | [] => by simp
  | d :: l => by
    have h1 := bulk_one d
    have h2 := bulk_count l
    simp only [Rows.uptoBulkAll, List.length_cons]
    omega
theorem open_argT {H : Type} {enc : TypeId × Value → H} {w : World} {base fuel : Nat} {sp : Nat → Bool} {held : Bool} {ao : Option Addr} {len cap : Nat} {d : DataW H} {ps : List MemPlace}
    (h : DataW.trod enc Tryd.prog w base sp held fuel 25 [.slice ao len cap] = some (d, ps)) (hsz : ∀ n ∈ d.weights Tryd.prog 25, n ≤ reachBytes) :
    ∃ l : List UInt8, ArgB w ao len cap l ∧ len ≤ Rows.uptoBulk d := by
  have h47 := reachBytes_lt
  obtain ⟨l, hl1, hl2, hl3⟩ := open_bytes h
  rcases open_ints Tryd.underlying25 Tryd.underlying5 (by kernel_rfl) h with ⟨hcs, _⟩ | ⟨a, l', c', zs, hcs, _, hl, hm, hz, hx, hcell, hwz⟩
  · simp at hcs
    obtain ⟨rfl, rfl, rfl⟩ := hcs
    exact ⟨l, ⟨hl1, by omega, by omega, by omega, fun _ => rfl, hl3⟩, by omega⟩
  · simp at hcs
    obtain ⟨rfl, rfl, rfl⟩ := hcs
    have hzl : len ≤ zs.length := by rw [hz]; split <;> omega
    have hmax : cap ≤ 9223372036854775807 := by unfold maxLen at hm; omega
    simp only [Prod.mk.injEq] at hx
    have hb8 : Tryd.prog.bytesOf 5 = 1 := by kernel_rfl
    have h8 : len ≤ reachBytes := by
      have hlz : (lits (H := H) .u8 (zs.take len)).length + (lits (H := H) .u8 (zs.drop len)).length = zs.length := by simp [lits]; omega
      have := hsz (((lits (H := H) .u8 (zs.take len)).length + (lits (H := H) .u8 (zs.drop len)).length) * 1) (by
        rw [hx.1]
        simp only [DataW.weights, Tryd.underlying25, hb8]
        exact List.mem_cons_self)
      rw [hlz] at this
      omega
    refine ⟨l, ⟨hl1, by omega, hl, hmax, fun e => (by cases e), hl3⟩, ?_⟩
    rw [hx.1]
    simp only [Rows.uptoBulk]
    have h1 := bulk_count (lits (H := H) .u8 (zs.take len))
    have h2 : (lits (H := H) .u8 (zs.take len)).length = len := by simp [lits]; omega
    omega
end Go.Proofs.YtdaofgmdledcbaaDoor
