/-
  A slice of bytes as an argument, opened.
  Conditions: none.
-/
import Derived.Test.YtbggmeilkfpbgaaDoorLTakes
import Derived.Test.YtbggmeilkfpbgaaDoorLArgs
import Derived.ChangeSlices
import Derived.ChangeSame
namespace Go.Proofs.YtbggmeilkfpbgaaDoor
open Go.RowKit Go.ChangeShapes Go.WideShapes Go.Deep

theorem open_argB {H : Type} {enc : TypeId × Value → H} {w : World} {base fuel : Nat} {sp : Nat → Bool} {held : Bool} {ao : Option Addr} {len cap : Nat} {d : DataW H} {ps : List MemPlace}
    (h : DataW.trod enc Tryd.prog w base sp held fuel 22 [.slice ao len cap] = some (d, ps)) (hsz : ∀ n ∈ d.weights Tryd.prog 22, n ≤ reachBytes) :
    ∃ l : List UInt8, ArgB w ao len cap l := by
  have h47 := reachBytes_lt
  obtain ⟨l, hl1, hl2, hl3⟩ := open_bytes h
  rcases open_ints Tryd.underlying22 Tryd.underlying5 (by kernel_rfl) h with ⟨hcs, _⟩ | ⟨a, l', c', zs, hcs, _, hl, hm, hz, hx, hcell, hwz⟩
  · simp at hcs
    obtain ⟨rfl, rfl, rfl⟩ := hcs
    exact ⟨l, hl1, by omega, by omega, by omega, fun _ => rfl, hl3⟩
  · simp at hcs
    obtain ⟨rfl, rfl, rfl⟩ := hcs
    have hzl : len ≤ zs.length := by rw [hz]; split <;> omega
    have hmax : cap ≤ 9223372036854775807 := by unfold maxLen at hm; omega
    simp only [Prod.mk.injEq] at hx
    have hb8 : Tryd.prog.bytesOf 5 = 1 := by kernel_rfl
    have h8 : len ≤ reachBytes := by
      have hlz : (lits (H := H) .u8 (zs.take len)).length + (lits (H := H) .u8 (zs.drop len)).length = zs.length := by simp [lits]; omega
      have := hsz (((lits (H := H) .u8 (zs.take len)).length + (lits (H := H) .u8 (zs.drop len)).length) * 1) (by
        rw [hx.1]
        simp only [DataW.weights, Tryd.underlying22, hb8]
        exact List.mem_cons_self)
      rw [hlz] at this
      omega
    exact ⟨l, hl1, by omega, hl, hmax, fun e => (by cases e), hl3⟩
end Go.Proofs.YtbggmeilkfpbgaaDoor
