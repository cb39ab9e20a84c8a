/-
  Layer 7: what the row's listed variables give the walks: the list of types stands in the world.
  Conditions: none.
-/
import Derived.Test.YtfofhnbijjocfaaGreatDoorLProof
import Derived.Test.YtfofhnbijjocfaaGreatDoorKRes
namespace Go.Proofs.YtfofhnbijjocfaaGreatDoor
open Go.ChangeShapes Go.WideShapes Go.ChangeAt Go.RowKit
set_option maxRecDepth 100000

theorem gTypes : Tryz.prog.globalNamed "majordomo/catalog.types" = some 0 := by kernel_rfl
theorem tTypes : (Tryz.prog.globals[0]?).map (·.type) = some 102 := by kernel_rfl
theorem tyD (j : Nat) (hj : j < 5) : ([.lit (.string [102, 105, 108, 101]), .lit (.string [97, 99, 99, 111, 117, 110, 116]), .lit (.string [103, 114, 111, 117, 112]), .lit (.string [112, 97, 99, 107, 97, 103, 101]), .lit (.string [115, 101, 114, 118, 105, 99, 101])] : List (DataW Unit))[j]? = some (.lit (.string (tyOf (j + 1)))) := by
  rcases (by omega : j = 0 ∨ j = 1 ∨ j = 2 ∨ j = 3 ∨ j = 4) with rfl | rfl | rfl | rfl | rfl <;> rfl
theorem tys_of_laid {W : World} (h : laidMetH Tryz.prog laid3 W) : TysIs W := by
  rw [laid3_plain] at h
  obtain ⟨ps, ⟨g0, t0, cs0, f0, p0, q0, hg0, ht0, hv0, hd0, ⟨g1, t1, cs1, f1, p1, q1, hg1, ht1, hv1, hd1, _⟩, _⟩, _, _⟩ := h
  obtain rfl := Option.some.inj (gTypes.symm.trans hg1)
  obtain rfl := Option.some.inj (tTypes.symm.trans ht1)
  obtain ⟨xs, m, _, hx, _, hn, hel⟩ := DataW.trod_array Tryz.underlying102 hd1
  have ci : Tryz.prog.cellsOf 9 = 1 := by kernel_rfl
  simp only [Prod.mk.injEq] at hx
  have hagg : xs.map (·.1) = [.lit (.string [102, 105, 108, 101]), .lit (.string [97, 99, 99, 111, 117, 110, 116]), .lit (.string [103, 114, 111, 117, 112]), .lit (.string [112, 97, 99, 107, 97, 103, 101]), .lit (.string [115, 101, 114, 118, 105, 99, 101])] := by
    have := hx.1
    injection this with this
    exact this.symm
  have key : ∀ j, j < 5 → W.cell? ⟨0, j, none⟩ = some (.string (strL (tyOf (j + 1)))) := fun j hj => by
    have h1 := hel j hj
    rw [ci, Nat.mul_one] at h1
    have hxj : j < xs.length := by omega
    rw [List.getElem?_eq_getElem hxj] at h1
    obtain ⟨s, hs, hy, _⟩ := DataW.trod_string Tryz.underlying9 h1
    have h2 : (xs.map (·.1))[j]? = some (xs[j]).1 := by rw [List.getElem?_map, List.getElem?_eq_getElem hxj]; rfl
    rw [hagg, tyD j hj, hy] at h2
    injection h2 with h2
    injection h2 with h2
    injection h2 with h2
    have hcell := World.var?_cell hg1 hv1 j
    rw [hcell]
    have h3 : (cs1.toList.drop j)[0]? = some (.string s) := by
      have : ((cs1.toList.drop j).take 1)[0]? = some (.string s) := by rw [hs]; rfl
      rwa [List.getElem?_take_of_lt (by omega)] at this
    rw [List.getElem?_drop, Nat.add_zero, Array.getElem?_toList] at h3
    rw [h3, h2, strL_of]
  exact ⟨by
    have := World.block_lt_of_cell? W _ (key 0 (by omega))
    exact this, key⟩
end Go.Proofs.YtfofhnbijjocfaaGreatDoor
