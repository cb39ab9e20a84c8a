/-
  A node as an argument, opened: its five values, and its row of numbers.
  Conditions: none.
-/
import Derived.Test.YtbggmeilkfpbgaaDoorLArgs
import Derived.Test.YtbggmeilkfpbgaaDoorLNodes
import Derived.ChangeSlices
import Derived.ChangeSame
namespace Go.Proofs.YtbggmeilkfpbgaaDoor
open Go.RowKit Go.ChangeShapes Go.WideShapes Go.Deep

theorem open_intsA {H : Type} {enc : TypeId × Value → H} {w : World} {base fuel : Nat} {sp : Nat → Bool} {held : Bool} {ao : Option Addr} {len cap : Nat} {d : DataW H} {ps : List MemPlace}
    (h : DataW.trod enc Tryd.prog w base sp held fuel 24 [.slice ao len cap] = some (d, ps)) (hsz : ∀ n ∈ d.weights Tryd.prog 24, n ≤ reachBytes) :
    ∃ l : List Int, IntsIs w ao len l ∧ len ≤ cap ∧ cap ≤ 9223372036854775807 ∧ len * 8 ≤ reachBytes ∧ (ao = none → cap = 0) := by
  rcases open_ints Tryd.underlying24 Tryd.underlying3 (by kernel_rfl) h with ⟨hcs, _⟩ | ⟨a, l', c', zs, hcs, _, hl, hm, hz, hx, hcell, hwz⟩
  · simp at hcs
    obtain ⟨rfl, rfl, rfl⟩ := hcs
    exact ⟨[], ⟨rfl, by omega, .inl rfl⟩, by omega, by omega, by omega, fun _ => rfl⟩
  · simp at hcs
    obtain ⟨rfl, rfl, rfl⟩ := hcs
    have hzl : len ≤ zs.length := by rw [hz]; split <;> omega
    have hmax : cap ≤ 9223372036854775807 := by unfold maxLen at hm; omega
    simp only [Prod.mk.injEq] at hx
    have hb8 : Tryd.prog.bytesOf 3 = 8 := by kernel_rfl
    have h8 : len * 8 ≤ reachBytes := by
      have hlz : (lits (H := H) .i64 (zs.take len)).length + (lits (H := H) .i64 (zs.drop len)).length = zs.length := by simp [lits]; omega
      have := hsz (((lits (H := H) .i64 (zs.take len)).length + (lits (H := H) .i64 (zs.drop len)).length) * 8) (by
        rw [hx.1]
        simp only [DataW.weights, Tryd.underlying24, hb8]
        exact List.mem_cons_self)
      rw [hlz] at this
      omega
    have h47 := reachBytes_lt
    refine ⟨zs.take len, ⟨by simp; omega, by omega, ?_⟩, hl, hmax, h8, fun e => by cases e⟩
    by_cases h0 : len = 0
    · exact .inl h0
    · right
      have hc0 := hcell 0 (by omega)
      have hs := spot_none hc0 (.inl rfl)
      have hlt := World.block_lt_of_cell? w _ hc0
      obtain ⟨b, o, s⟩ := a
      simp only at hs
      subst hs
      refine ⟨b, o, rfl, by simpa [Addr.add] using hlt, fun i v hv => ?_⟩
      have hil : i < len := by
        have := (List.getElem?_eq_some_iff.1 hv).1
        simp [iv] at this; omega
      have hiz : i < zs.length := by omega
      have := hcell i hiz
      rw [Addr.add_mid] at this
      rw [this, ← hv]
      simp [iv, List.getElem?_take_of_lt hil, hiz]

theorem open_node {H : Type} {enc : TypeId × Value → H} {w : World} {base b0 : Nat} {r : Reach} {sp : Nat → Bool} {held : Bool} {v : Value} {d : DataW H} {ps : List MemPlace}
    (hv : Value.okWide Tryd.prog w r b0 26 v) (h : DataW.Trod enc Tryd.prog w base sp held 26 v d ps) (hsz : ∀ n ∈ d.weights Tryd.prog 26, n ≤ reachBytes) :
    ∃ k m s more : Int, ∃ ao len cap l, v = nodeV k m s ao len cap more ∧ IntsIs w ao len l ∧ len ≤ cap ∧ cap ≤ 9223372036854775807 ∧ len * 8 ≤ reachBytes ∧ (ao = none → cap = 0) ∧ -9223372036854775808 ≤ k ∧ k ≤ 9223372036854775807 ∧ -9223372036854775808 ≤ m ∧ m ≤ 9223372036854775807 ∧ -9223372036854775808 ≤ s ∧ s ≤ 9223372036854775807 ∧ -9223372036854775808 ≤ more ∧ more ≤ 9223372036854775807 := by
  obtain ⟨cs, rfl, hcs⟩ := okWide_struct Tryd.underlying26 hv
  rw [show Tryd.prog.cellsOf 26 = 5 by kernel_rfl] at hcs
  obtain ⟨fuel, hf⟩ := h
  obtain ⟨xs, n, _, hx, hl, hlen, hi⟩ := DataW.trod_struct Tryd.underlying26 hf
  match cs, hcs with
  | ⟨[c0, c1, c2, c3, c4]⟩, _ =>
    match xs, hlen with
    | [y0, y1, y2, y3, y4], _ =>
      have ci : Tryd.prog.cellsOf 3 = 1 := by kernel_rfl
      have cl : Tryd.prog.cellsOf 24 = 1 := by kernel_rfl
      have i0 : DataW.trod enc Tryd.prog w base sp held n 3 [c0] = some y0 := by have := hi 0 _ rfl; simpa [Value.cells, ci, cl] using this
      have i1 : DataW.trod enc Tryd.prog w base sp held n 3 [c1] = some y1 := by have := hi 1 _ rfl; simpa [Value.cells, ci, cl] using this
      have i2 : DataW.trod enc Tryd.prog w base sp held n 3 [c2] = some y2 := by have := hi 2 _ rfl; simpa [Value.cells, ci, cl] using this
      have i3 : DataW.trod enc Tryd.prog w base sp held n 24 [c3] = some y3 := by have := hi 3 _ rfl; simpa [Value.cells, ci, cl] using this
      have i4 : DataW.trod enc Tryd.prog w base sp held n 3 [c4] = some y4 := by have := hi 4 _ rfl; simpa [Value.cells, ci, cl] using this
      obtain ⟨k, hk, _, wk⟩ := DataW.trod_int Tryd.underlying3 i0
      obtain ⟨m, hm, _, wm⟩ := DataW.trod_int Tryd.underlying3 i1
      obtain ⟨s, hs, _, ws⟩ := DataW.trod_int Tryd.underlying3 i2
      obtain ⟨more, hmo, _, wmo⟩ := DataW.trod_int Tryd.underlying3 i4
      obtain ⟨ao, len, cap, hc3⟩ := slice_cells Tryd.underlying24 i3
      simp only [List.cons.injEq, and_true] at hk hm hs hmo hc3
      subst hk hm hs hmo hc3
      obtain ⟨d3, p3⟩ := y3
      simp only [Prod.mk.injEq] at hx
      obtain ⟨l, q1, q2, q3, q4, q5⟩ := open_intsA i3 (fun z hz => hsz z (by
        rw [hx.1]
        simp only [DataW.weights, Tryd.underlying26]
        exact DataW.weights_mem_each (j := 3) (t := 24) (d := d3) rfl rfl z hz))
      have ⟨k1, k2⟩ := i64_bounds wk
      have ⟨m1, m2⟩ := i64_bounds wm
      have ⟨s1, s2⟩ := i64_bounds ws
      have ⟨o1, o2⟩ := i64_bounds wmo
      exact ⟨k, m, s, more, ao, len, cap, l, rfl, q1, q2, q3, q4, q5, k1, k2, m1, m2, s1, s2, o1, o2⟩
end Go.Proofs.YtbggmeilkfpbgaaDoor
