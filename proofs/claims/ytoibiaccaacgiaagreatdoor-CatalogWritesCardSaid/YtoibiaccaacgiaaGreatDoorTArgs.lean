/-
  Rows of rows as arguments, opened: []api.Row, api.Row.
  Conditions: none.
-/
import Derived.Test.YtoibiaccaacgiaaGreatDoorTSound
import Derived.Deep.Slices
import Derived.SliceStrings
import Derived.SizedLaws
import Derived.OpenShut
import Derived.ChangeSame
import Derived.Deep.Fields23
namespace Go.Proofs.YtoibiaccaacgiaaGreatDoor
open Go.RowKit Go.ChangeShapes Go.WideShapes Go.Deep
set_option maxRecDepth 100000

theorem slice_cellsT {H : Type} {enc : TypeId × Value → H} {w : World} {base fuel : Nat} {sp : Nat → Bool} {held : Bool} {cs : List Value} {x : DataW H × List MemPlace} {t e : TypeId} (ht : Tryz.prog.underlying t = some (.slice e))
    (h : DataW.trod enc Tryz.prog w base sp held fuel t cs = some x) : ∃ ao len cap, cs = [.slice ao len cap] := by
  rcases open_slice ht h with ⟨hcs, _⟩ | ⟨a, len', cap', m, n, D, Pl, hcs, _⟩
  · exact ⟨_, _, _, hcs⟩
  · exact ⟨_, _, _, hcs⟩
theorem weightsAll_inT {H : Type} {P : Program} {e : TypeId} : ∀ {l : List (DataW H)} {d : DataW H}, d ∈ l → ∀ n ∈ d.weights P e, n ∈ DataW.weightsAll P e l
  | x :: l, d, hd, n, hn => by
    simp only [DataW.weightsAll, List.mem_append]
    rcases List.mem_cons.1 hd with rfl | hd
    · exact .inl hn
    · exact .inr (weightsAll_inT hd n hn)
theorem spot_noneT {w : World} {a : Addr} {i : Nat} {v : Value} (hc : w.cell? (a.add i) = some v) (hi : i = 0 ∨ a.spot = none) : a.spot = none := by
  rcases hi with rfl | h
  · simp only [Addr.add, if_true] at hc
    unfold World.cell? at hc
    split at hc
    · split at hc
      · cases hc
      · rename_i hh
        simpa using hh
    · cases hc
  · exact h
/-- A slice of texts that came in. -/
theorem open_cells {H : Type} {enc : TypeId × Value → H} {w : World} {base fuel : Nat} {sp : Nat → Bool} {held : Bool} {v : Value} {d : DataW H} {ps : List MemPlace}
    (h : DataW.trod enc Tryz.prog w base sp held fuel 58 [v] = some (d, ps)) (hsz : ∀ n ∈ d.weights Tryz.prog 58, n ≤ reachBytes) : ∃ l : List (List UInt8), CellsIs w v l := by
  have h47 := reachBytes_lt
  rcases open_strings Tryz.underlying58 Tryz.underlying9 (by kernel_rfl) h with ⟨hcs, _⟩ | ⟨a, len, cap, ss, hcs, hcap, hl, hm, hs, hx, hcell, hwz⟩
  · simp at hcs
    subst hcs
    exact ⟨[], CellsIs.nil w⟩
  · simp at hcs
    subst hcs
    have hzl : len ≤ ss.length := by rw [hs]; split <;> omega
    have hb16 : Tryz.prog.bytesOf 9 = 16 := by kernel_rfl
    simp only [Prod.mk.injEq] at hx
    have hll : ((ss.take len).map fun s => s.data.toList).length = len := by simp; omega
    have hw : ∀ z ∈ d.weights Tryz.prog 58, z ≤ reachBytes := hsz
    rw [hx.1] at hw
    simp only [DataW.weights, Tryz.underlying58, hb16] at hw
    have hlen16 : len * 16 ≤ reachBytes := by
      have := hw _ List.mem_cons_self
      simp [strs] at this
      omega
    refine ⟨(ss.take len).map fun s => s.data.toList, ⟨⟨some a, cap, by rw [hll], by rw [hll]; exact hl, by unfold maxLen at hm; omega, fun e => (by cases e), ?_⟩, by rw [hll]; omega, ?_⟩⟩
    · rw [hll]
      by_cases h0 : len = 0
      · exact .inl h0
      · right
        have hc0 := hcell 0 (by omega)
        have hs := spot_noneT hc0 (.inl rfl)
        have hlt := World.block_lt_of_cell? w _ hc0
        obtain ⟨b, o, s⟩ := a
        simp only at hs
        subst hs
        refine ⟨b, o, rfl, by simpa [Addr.add] using hlt, fun i v hv => ?_⟩
        have hil : i < len := by
          have := (List.getElem?_eq_some_iff.1 hv).1
          simp [sv] at this; omega
        have hiz : i < ss.length := by omega
        have := hcell i hiz
        rw [Addr.add_mid] at this
        rw [this, ← hv]
        simp [sv, List.getElem?_take_of_lt hil, hiz, strL_of]
    · intro p hp
      simp only [List.mem_map] at hp
      obtain ⟨s, hs', rfl⟩ := hp
      have := hw s.data.toList.length (List.mem_cons_of_mem _ (List.mem_append.2 (.inl (weightsAll_inT (d := .lit (.string s.data.toList)) (by simp only [strs, List.mem_map]; exact ⟨s, hs', rfl⟩) _ (by simp [DataW.weights])))))
      omega
/-- A row that came in. -/
theorem open_row {H : Type} {enc : TypeId × Value → H} {w : World} {base fuel : Nat} {sp : Nat → Bool} {held : Bool} {cs : List Value} {x : DataW H × List MemPlace}
    (h : DataW.trod enc Tryz.prog w base sp held fuel 116 cs = some x) (hsz : ∀ n ∈ x.1.weights Tryz.prog 116, n ≤ reachBytes) : ∃ (k : List UInt8) (v : Value) (c : List (List UInt8)), cs = [.string (strL k), v] ∧ CellsIs w v c ∧ k.length ≤ 140737488355328 := by
  have h47 := reachBytes_lt
  obtain ⟨y0, y1, n, hx, hl, h0, h1⟩ := trod_struct2 Tryz.underlying116 h
  have ci : Tryz.prog.cellsOf 9 = 1 := by kernel_rfl
  have cl : Tryz.prog.cellsOf 58 = 1 := by kernel_rfl
  rw [show Tryz.prog.cellsOf 116 = 2 by kernel_rfl] at hl
  match cs, hl with
  | [c0, c1], _ =>
    have i0 : DataW.trod enc Tryz.prog w base sp held n 9 [c0] = some y0 := by simpa [ci, cl] using h0
    have i1 : DataW.trod enc Tryz.prog w base sp held n 58 [c1] = some (y1.1, y1.2) := by simpa [ci, cl] using h1
    obtain ⟨s, hs, hy, _⟩ := DataW.trod_string Tryz.underlying9 i0
    simp only [List.cons.injEq, and_true] at hs
    subst hs
    rw [hx] at hsz
    simp only [DataW.weights, Tryz.underlying116] at hsz
    obtain ⟨c, hc⟩ := open_cells i1 (fun z hz => hsz z (DataW.weights_mem_each (j := 1) (t := 58) (d := y1.1) rfl rfl z hz))
    refine ⟨s.data.toList, c1, c, by simp [strL_of], hc, ?_⟩
    have := hsz s.data.toList.length (DataW.weights_mem_each (j := 0) (t := 9) (d := y0.1) rfl rfl _ (by rw [hy]; simp [DataW.weights]))
    omega
end Go.Proofs.YtoibiaccaacgiaaGreatDoor
