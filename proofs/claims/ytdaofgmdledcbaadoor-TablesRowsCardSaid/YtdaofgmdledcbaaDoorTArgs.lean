/-
  Rows of rows as arguments, opened: []api.Row, api.Row.
  Conditions: none.
-/
import Derived.Test.YtdaofgmdledcbaaDoorTRow
import Derived.Deep.Slices
import Derived.SliceStrings
import Derived.SizedLaws
import Derived.OpenShut
import Derived.ChangeSame
import Derived.Deep.Fields23
namespace Go.Proofs.YtdaofgmdledcbaaDoor
open Go.RowKit Go.ChangeShapes Go.WideShapes Go.Deep

theorem slice_cellsT {H : Type} {enc : TypeId × Value → H} {w : World} {base fuel : Nat} {sp : Nat → Bool} {held : Bool} {cs : List Value} {x : DataW H × List MemPlace} {t e : TypeId} (ht : Tryd.prog.underlying t = some (.slice e))
    (h : DataW.trod enc Tryd.prog w base sp held fuel t cs = some x) : ∃ ao len cap, cs = [.slice ao len cap] := by
  rcases open_slice ht h with ⟨hcs, _⟩ | ⟨a, len', cap', m, n, D, Pl, hcs, _⟩
  · exact ⟨_, _, _, hcs⟩
  · exact ⟨_, _, _, hcs⟩
theorem weightsAll_inT {H : Type} {P : Program} {e : TypeId} : ∀ {l : List (DataW H)} {d : DataW H}, d ∈ l → ∀ n ∈ d.weights P e, n ∈ DataW.weightsAll P e l
  | x :: l, d, hd, n, hn => by
    simp only [DataW.weightsAll, List.mem_append]
    rcases List.mem_cons.1 hd with rfl | hd
    · exact .inl hn
    · exact .inr (weightsAll_inT hd n hn)
theorem spot_noneT {w : World} {a : Addr} {i : Nat} {v : Value} (hc : w.cell? (a.add i) = some v) (hi : i = 0 ∨ a.spot = none) : a.spot = none := by
  rcases hi with rfl | h
  · simp only [Addr.add, if_true] at hc
    unfold World.cell? at hc
    split at hc
    · split at hc
      · cases hc
      · rename_i hh
        simpa using hh
    · cases hc
  · exact h
/-- A slice of texts that came in. -/
theorem open_cells {H : Type} {enc : TypeId × Value → H} {w : World} {base fuel : Nat} {sp : Nat → Bool} {held : Bool} {v : Value} {d : DataW H} {ps : List MemPlace}
    (h : DataW.trod enc Tryd.prog w base sp held fuel 32 [v] = some (d, ps)) (hsz : ∀ n ∈ d.weights Tryd.prog 32, n ≤ reachBytes) : ∃ l : List (List UInt8), CellsIs w v l := by
  have h47 := reachBytes_lt
  rcases open_strings Tryd.underlying32 Tryd.underlying9 (by kernel_rfl) h with ⟨hcs, _⟩ | ⟨a, len, cap, ss, hcs, hcap, hl, hm, hs, hx, hcell, hwz⟩
  · simp at hcs
    subst hcs
    exact ⟨[], CellsIs.nil w⟩
  · simp at hcs
    subst hcs
    have hzl : len ≤ ss.length := by rw [hs]; split <;> omega
    have hb16 : Tryd.prog.bytesOf 9 = 16 := by kernel_rfl
    simp only [Prod.mk.injEq] at hx
    have hll : ((ss.take len).map fun s => s.data.toList).length = len := by simp; omega
    have hw : ∀ z ∈ d.weights Tryd.prog 32, z ≤ reachBytes := hsz
    rw [hx.1] at hw
    simp only [DataW.weights, Tryd.underlying32, hb16] at hw
    have hlen16 : len * 16 ≤ reachBytes := by
      have := hw _ List.mem_cons_self
      simp [strs] at this
      omega
    refine ⟨(ss.take len).map fun s => s.data.toList, ⟨⟨some a, cap, by rw [hll], by rw [hll]; exact hl, by unfold maxLen at hm; omega, fun e => (by cases e), ?_⟩, by rw [hll]; omega, ?_⟩⟩
    · rw [hll]
      by_cases h0 : len = 0
      · exact .inl h0
      · right
        have hc0 := hcell 0 (by omega)
        have hs := spot_noneT hc0 (.inl rfl)
        have hlt := World.block_lt_of_cell? w _ hc0
        obtain ⟨b, o, s⟩ := a
        simp only at hs
        subst hs
        refine ⟨b, o, rfl, by simpa [Addr.add] using hlt, fun i v hv => ?_⟩
        have hil : i < len := by
          have := (List.getElem?_eq_some_iff.1 hv).1
          simp [sv] at this; omega
        have hiz : i < ss.length := by omega
        have := hcell i hiz
        rw [Addr.add_mid] at this
        rw [this, ← hv]
        simp [sv, List.getElem?_take_of_lt hil, hiz, strL_of]
    · intro p hp
      simp only [List.mem_map] at hp
      obtain ⟨s, hs', rfl⟩ := hp
      have := hw s.data.toList.length (List.mem_cons_of_mem _ (List.mem_append.2 (.inl (weightsAll_inT (d := .lit (.string s.data.toList)) (by simp only [strs, List.mem_map]; exact ⟨s, hs', rfl⟩) _ (by simp [DataW.weights])))))
      omega
/-- A row that came in. -/
theorem open_row {H : Type} {enc : TypeId × Value → H} {w : World} {base fuel : Nat} {sp : Nat → Bool} {held : Bool} {cs : List Value} {x : DataW H × List MemPlace}
    (h : DataW.trod enc Tryd.prog w base sp held fuel 34 cs = some x) (hsz : ∀ n ∈ x.1.weights Tryd.prog 34, n ≤ reachBytes) : ∃ (k : List UInt8) (v : Value) (c : List (List UInt8)), cs = [.string (strL k), v] ∧ CellsIs w v c ∧ k.length ≤ 140737488355328 := by
  have h47 := reachBytes_lt
  obtain ⟨y0, y1, n, hx, hl, h0, h1⟩ := trod_struct2 Tryd.underlying34 h
  have ci : Tryd.prog.cellsOf 9 = 1 := by kernel_rfl
  have cl : Tryd.prog.cellsOf 32 = 1 := by kernel_rfl
  rw [show Tryd.prog.cellsOf 34 = 2 by kernel_rfl] at hl
  match cs, hl with
  | [c0, c1], _ =>
    have i0 : DataW.trod enc Tryd.prog w base sp held n 9 [c0] = some y0 := by simpa [ci, cl] using h0
    have i1 : DataW.trod enc Tryd.prog w base sp held n 32 [c1] = some (y1.1, y1.2) := by simpa [ci, cl] using h1
    obtain ⟨s, hs, hy, _⟩ := DataW.trod_string Tryd.underlying9 i0
    simp only [List.cons.injEq, and_true] at hs
    subst hs
    rw [hx] at hsz
    simp only [DataW.weights, Tryd.underlying34] at hsz
    obtain ⟨c, hc⟩ := open_cells i1 (fun z hz => hsz z (DataW.weights_mem_each (j := 1) (t := 32) (d := y1.1) rfl rfl z hz))
    refine ⟨s.data.toList, c1, c, by simp [strL_of], hc, ?_⟩
    have := hsz s.data.toList.length (DataW.weights_mem_each (j := 0) (t := 9) (d := y0.1) rfl rfl _ (by rw [hy]; simp [DataW.weights]))
    omega
/-- A slice of rows that came in. -/
theorem open_trows {H : Type} {enc : TypeId × Value → H} {w : World} {base fuel : Nat} {sp : Nat → Bool} {held : Bool} {ao : Option Addr} {len cap : Nat} {d : DataW H} {ps : List MemPlace}
    (h : DataW.trod enc Tryd.prog w base sp held fuel 22 [.slice ao len cap] = some (d, ps)) (hsz : ∀ n ∈ d.weights Tryd.prog 22, n ≤ reachBytes) :
    ∃ l : List TRow, RowsIs w ao len l ∧ len * 40 ≤ reachBytes ∧ len ≤ cap ∧ (ao = none → cap = 0) := by
  have h47 := reachBytes_lt
  rcases open_slice Tryd.underlying22 h with ⟨hcs, _⟩ | ⟨a, len', cap', m, n, D, Pl, hcs, hb, hl, hm, hmm, hx, hi⟩
  · simp at hcs
    obtain ⟨rfl, rfl, rfl⟩ := hcs
    exact ⟨[], RowsIs.nil _ _, by omega, by omega, fun _ => rfl⟩
  · simp at hcs
    obtain ⟨rfl, rfl, rfl⟩ := hcs
    have hlm : len ≤ m := by rw [hmm]; split <;> omega
    simp only [Prod.mk.injEq] at hx
    have c2 : Tryd.prog.cellsOf 34 = 2 := by kernel_rfl
    have hb40 : Tryd.prog.bytesOf 34 = 40 := by kernel_rfl
    have hw : ∀ z ∈ ((((List.range len).map D).length + ((List.range (m - len)).map fun j => D (len + j)).length) * 40 :: (DataW.weightsAll Tryd.prog 34 ((List.range len).map D) ++ DataW.weightsAll Tryd.prog 34 ((List.range (m - len)).map fun j => D (len + j)))), z ≤ reachBytes := fun z hz => hsz z (by
      rw [hx.1]
      simp only [DataW.weights, Tryd.underlying22, hb40]
      exact hz)
    have hel : ∀ i, i < len → ∃ o : TRow × Value, CellsIs w o.2 o.1.2 ∧ o.1.1.length ≤ 140737488355328 ∧ w.cell? (a.add (i * 2)) = some (.string (strL o.1.1)) ∧ w.cell? (a.add (i * 2 + 1)) = some o.2 := fun i hil => by
      obtain ⟨cs', hc, ht'⟩ := hi i (by omega)
      obtain ⟨k, v, c, rfl, hcv, hk⟩ := open_row ht' (fun z hz => hw z (List.mem_cons_of_mem _ (List.mem_append.2 (.inl (weightsAll_inT (d := D i) (List.mem_map.2 ⟨i, List.mem_range.2 hil, rfl⟩) _ hz)))))
      rw [c2] at hc
      obtain ⟨_, _, hat⟩ := World.cells?_some hc
      refine ⟨((k, c), v), hcv, hk, ?_, ?_⟩
      · have := hat 0 (by omega)
        simpa [Addr.add] using this
      · have := hat 1 (by omega)
        rw [Go.Deep.add_add] at this
        simpa using this
    obtain ⟨f, hf⟩ := choose_lt hel
    have hlen40 : len * 40 ≤ reachBytes := by
      have := hw _ List.mem_cons_self
      simp at this
      omega
    have hvl : ((List.range len).map fun i => (f i).2).length = ((List.range len).map fun i => (f i).1).length := by simp
    refine ⟨(List.range len).map fun i => (f i).1, ⟨by simp, by omega, ⟨(List.range len).map fun i => (f i).2, ⟨hvl, fun i hi' hv => ?_⟩, ?_⟩, fun r hr => ?_⟩, hlen40, hl, fun e => (by cases e)⟩
    · simp at hi'
      simpa using (hf i hi').1.D
    · by_cases h0 : len = 0
      · exact .inl h0
      · right
        obtain ⟨_, _, hc0, _⟩ := hf 0 (by omega)
        have hs := spot_noneT hc0 (.inl (by omega))
        have hlt := World.block_lt_of_cell? w _ hc0
        obtain ⟨b, o, s⟩ := a
        simp only at hs
        subst hs
        refine ⟨b, o, rfl, by simpa [Addr.add] using hlt, fun j v hv => ?_⟩
        have hjl := (List.getElem?_eq_some_iff.1 hv).1
        rw [rv_length _ _ hvl] at hjl
        simp at hjl
        obtain ⟨_, _, e1, e2⟩ := hf (j / 2) (by omega)
        rw [Addr.add_mid] at e1 e2
        rcases (by omega : j = 2 * (j / 2) ∨ j = 2 * (j / 2) + 1) with e | e
        · rw [e, rv_get0 _ _ hvl (j / 2) (by simp; omega)] at hv
          rw [e, Nat.mul_comm 2, e1, ← hv]
          simp
        · rw [e, rv_get1 _ _ hvl (j / 2) (by simp; omega)] at hv
          rw [e, Nat.mul_comm 2, e2, ← hv, List.getElem?_map, List.getElem?_range (by omega)]
          rfl
    · simp only [List.mem_map, List.mem_range] at hr
      obtain ⟨i, hi', rfl⟩ := hr
      exact (hf i hi').2.1
/-- A slice of numbers that came in. -/
theorem open_intsT {H : Type} {enc : TypeId × Value → H} {w : World} {base fuel : Nat} {sp : Nat → Bool} {held : Bool} {ao : Option Addr} {len cap : Nat} {d : DataW H} {ps : List MemPlace}
    (h : DataW.trod enc Tryd.prog w base sp held fuel 46 [.slice ao len cap] = some (d, ps)) (hsz : ∀ n ∈ d.weights Tryd.prog 46, n ≤ reachBytes) :
    ∃ l : List Int, IntsIs w ao len l ∧ ∀ x ∈ l, -9223372036854775808 ≤ x ∧ x ≤ 9223372036854775807 := by
  have h47 := reachBytes_lt
  rcases open_slice Tryd.underlying46 h with ⟨hcs, _⟩ | ⟨a, len', cap', m, n, D, Pl, hcs, hb, hl, hm, hmm, hx, hi⟩
  · simp at hcs
    obtain ⟨rfl, rfl, rfl⟩ := hcs
    exact ⟨[], ⟨rfl, by omega, .inl rfl⟩, fun x hx => by cases hx⟩
  · simp at hcs
    obtain ⟨rfl, rfl, rfl⟩ := hcs
    have hlm : len ≤ m := by rw [hmm]; split <;> omega
    simp only [Prod.mk.injEq] at hx
    have c1 : Tryd.prog.cellsOf 3 = 1 := by kernel_rfl
    have hb8 : Tryd.prog.bytesOf 3 = 8 := by kernel_rfl
    have hlen8 : len * 8 ≤ reachBytes := by
      have := hsz ((((List.range len).map D).length + ((List.range (m - len)).map fun j => D (len + j)).length) * 8) (by
        rw [hx.1]
        simp only [DataW.weights, Tryd.underlying46, hb8]
        exact List.mem_cons_self)
      simp at this
      omega
    have hel : ∀ i, i < len → ∃ x : Int, (Lit.int .i64 x).wf = true ∧ w.cell? (a.add i) = some (.int .i64 x) := fun i hil => by
      obtain ⟨cs', hc, ht'⟩ := hi i (by omega)
      obtain ⟨x, hx1, hx2, hx3⟩ := DataW.trod_int Tryd.underlying3 ht'
      rw [c1, Nat.mul_one] at hc
      obtain ⟨_, _, hat⟩ := World.cells?_some hc
      subst hx1
      refine ⟨x, ?_, ?_⟩
      · first
          | exact hx3
          | exact hx2
          | exact hx3.1
          | exact hx3.2
      · have := hat 0 (by omega)
        simpa [Addr.add] using this
    obtain ⟨f, hf⟩ := choose_lt hel
    refine ⟨(List.range len).map f, ⟨by simp, by omega, ?_⟩, fun x hx' => ?_⟩
    · by_cases h0 : len = 0
      · exact .inl h0
      · right
        obtain ⟨_, hc0⟩ := hf 0 (by omega)
        have hs := spot_noneT hc0 (.inl rfl)
        have hlt := World.block_lt_of_cell? w _ hc0
        obtain ⟨b, o, s⟩ := a
        simp only at hs
        subst hs
        refine ⟨b, o, rfl, by simpa [Addr.add] using hlt, fun j v hv => ?_⟩
        have hjl := (List.getElem?_eq_some_iff.1 hv).1
        rw [iv_length] at hjl
        simp at hjl
        obtain ⟨_, e1⟩ := hf j hjl
        rw [Addr.add_mid] at e1
        rw [e1, ← hv]
        simp [iv, hjl]
    · simp only [List.mem_map, List.mem_range] at hx'
      obtain ⟨i, hi', rfl⟩ := hx'
      have := (hf i hi').1
      simpa [Lit.wf, IntKind.min, IntKind.max, IntKind.signed, IntKind.bits] using this
end Go.Proofs.YtdaofgmdledcbaaDoor
