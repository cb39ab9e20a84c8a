/-
  An argument of type []byte, opened: its bytes, and the cells that hold them.
  Conditions: none.
-/
import Derived.Test.YtfofhnbijjocfaaGreatDoorRows
import Derived.Test.YtfofhnbijjocfaaGreatDoorBase
import Derived.ChangeSlices
import Derived.ChangeOld
namespace Go.Proofs.YtfofhnbijjocfaaGreatDoor
open Go.RowKit Go.ChangeShapes Go.WideShapes
set_option maxRecDepth 100000

/-- What a walk is told of an argument of type []byte. -/
def BytesArg (w : World) (ao : Option Addr) (len : Nat) (l : List UInt8) : Prop :=
  l.length = len ∧ len ≤ 9223372036854775807 ∧ (len = 0 ∨ ∃ b o, ao = some ⟨b, o, none⟩ ∧ b < w.heap.size ∧ w.rangeAt b o (bv l))

theorem open_bytes {H : Type} {enc : TypeId × Value → H} {w : World} {base fuel : Nat} {sp : Nat → Bool} {held : Bool} {ao : Option Addr} {len cap : Nat} {x : DataW H × List MemPlace}
    (h : DataW.trod enc Tryz.prog w base sp held fuel 28 [.slice ao len cap] = some x) : ∃ l : List UInt8, BytesArg w ao len l := by
  rcases open_ints Tryz.underlying28 Tryz.underlying5 (by kernel_rfl) h with ⟨hcs, _⟩ | ⟨a, l', c', zs, hcs, _, hl, hm, hz, _, hcell, hwz⟩
  · simp at hcs
    obtain ⟨rfl, rfl, rfl⟩ := hcs
    exact ⟨[], rfl, by omega, .inl rfl⟩
  · simp at hcs
    obtain ⟨rfl, rfl, rfl⟩ := hcs
    have hzl : len ≤ zs.length := by rw [hz]; split <;> omega
    have hmax : len ≤ 9223372036854775807 := by unfold maxLen at hm; omega
    have hb : ∀ i (hi : i < zs.length), zs[i] = ((UInt8.ofNat zs[i].toNat).toNat : Int) := fun i hi => by
      have := hwz zs[i] (List.getElem_mem _)
      simp [Lit.wf, IntKind.min, IntKind.max, IntKind.signed, IntKind.bits] at this
      simp; omega
    refine ⟨(zs.take len).map fun z => UInt8.ofNat z.toNat, by simp; omega, hmax, ?_⟩
    by_cases h0 : len = 0
    · exact .inl h0
    · right
      have hc0 := hcell 0 (by omega)
      have hs : a.spot = none := by
        simp only [Addr.add, if_true] at hc0
        unfold World.cell? at hc0
        split at hc0
        · split at hc0
          · cases hc0
          · rename_i hh
            simpa using hh
        · cases hc0
      have hlt := World.block_lt_of_cell? w _ hc0
      obtain ⟨b, o, s⟩ := a
      simp only at hs
      subst hs
      refine ⟨b, o, rfl, by simpa [Addr.add] using hlt, fun i v hv => ?_⟩
      have hil : i < len := by
        have := (List.getElem?_eq_some_iff.1 hv).1
        simp [bv] at this; omega
      have hiz : i < zs.length := by omega
      have e1 : (zs.take len)[i]? = some zs[i] := by rw [List.getElem?_take_of_lt hil, List.getElem?_eq_getElem hiz]
      have := hcell i hiz
      rw [Addr.add_mid] at this
      rw [this, ← hv]
      simp only [bv, List.getElem?_map, e1, Option.map_some, List.getD, List.getElem?_eq_getElem hiz, Option.getD_some]
      rw [← hb i hiz]

end Go.Proofs.YtfofhnbijjocfaaGreatDoor
