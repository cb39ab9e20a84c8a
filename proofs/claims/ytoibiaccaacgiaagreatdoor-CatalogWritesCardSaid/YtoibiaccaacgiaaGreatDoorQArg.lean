/-
  Resources as arguments, opened: api.Resource, []api.Param, api.Param.
  Conditions: none.
-/
import Derived.Test.YtoibiaccaacgiaaGreatDoorQVal
import Derived.Test.YtoibiaccaacgiaaGreatDoorTArgs
import Derived.Deep.Strs
namespace Go.Proofs.YtoibiaccaacgiaaGreatDoor
open Go.RowKit Go.ChangeShapes Go.WideShapes Go.Deep
set_option maxRecDepth 100000

/-- A parameter that came in. -/
theorem open_prm {H : Type} {enc : TypeId × Value → H} {w : World} {base fuel : Nat} {sp : Nat → Bool} {held : Bool} {cs : List Value} {x : DataW H × List MemPlace}
    (h : DataW.trod enc Tryz.prog w base sp held fuel 61 cs = some x) (hsz : ∀ n ∈ x.1.weights Tryz.prog 61, n ≤ reachBytes) : ∃ p : Prm, cs = [.string (strL p.1), .string (strL p.2)] ∧ p.1.length ≤ 140737488355328 ∧ p.2.length ≤ 140737488355328 := by
  have h47 := reachBytes_lt
  obtain ⟨y0, y1, n, hx, hl, h0, h1⟩ := trod_struct2 Tryz.underlying61 h
  have ci : Tryz.prog.cellsOf 9 = 1 := by kernel_rfl
  rw [show Tryz.prog.cellsOf 61 = 2 by kernel_rfl] at hl
  match cs, hl with
  | [c0, c1], _ =>
    have i0 : DataW.trod enc Tryz.prog w base sp held n 9 [c0] = some y0 := by simpa [ci] using h0
    have i1 : DataW.trod enc Tryz.prog w base sp held n 9 [c1] = some y1 := by simpa [ci] using h1
    obtain ⟨s, hs, hy, _⟩ := DataW.trod_string Tryz.underlying9 i0
    obtain ⟨r, hr, hz, _⟩ := DataW.trod_string Tryz.underlying9 i1
    simp only [List.cons.injEq, and_true] at hs hr
    subst hs hr
    rw [hx] at hsz
    simp only [DataW.weights, Tryz.underlying61] at hsz
    have g0 := hsz s.data.toList.length (DataW.weights_mem_each (j := 0) (t := 9) (d := y0.1) rfl rfl _ (by rw [hy]; simp [DataW.weights]))
    have g1 := hsz r.data.toList.length (DataW.weights_mem_each (j := 1) (t := 9) (d := y1.1) rfl rfl _ (by rw [hz]; simp [DataW.weights]))
    exact ⟨(s.data.toList, r.data.toList), by simp [strL_of], by show s.data.toList.length ≤ _; omega, by show r.data.toList.length ≤ _; omega⟩
/-- A slice of parameters that came in. -/
theorem open_params {H : Type} {enc : TypeId × Value → H} {w : World} {base fuel : Nat} {sp : Nat → Bool} {held : Bool} {ao : Option Addr} {len cap : Nat} {d : DataW H} {ps : List MemPlace}
    (h : DataW.trod enc Tryz.prog w base sp held fuel 38 [.slice ao len cap] = some (d, ps)) (hsz : ∀ n ∈ d.weights Tryz.prog 38, n ≤ reachBytes) :
    ∃ l : List Prm, PsIs w (.slice ao len cap) l := by
  have h47 := reachBytes_lt
  rcases open_slice Tryz.underlying38 h with ⟨hcs, _⟩ | ⟨a, len', cap', m, n, D, Pl, hcs, hb, hl, hm, hmm, hx, hi⟩
  · simp at hcs
    obtain ⟨rfl, rfl, rfl⟩ := hcs
    exact ⟨[], PsIs.nil _⟩
  · simp at hcs
    obtain ⟨rfl, rfl, rfl⟩ := hcs
    have hlm : len ≤ m := by rw [hmm]; split <;> omega
    simp only [Prod.mk.injEq] at hx
    have c2 : Tryz.prog.cellsOf 61 = 2 := by kernel_rfl
    have hb32 : Tryz.prog.bytesOf 61 = 32 := by kernel_rfl
    have hw : ∀ z ∈ ((((List.range len).map D).length + ((List.range (m - len)).map fun j => D (len + j)).length) * 32 :: (DataW.weightsAll Tryz.prog 61 ((List.range len).map D) ++ DataW.weightsAll Tryz.prog 61 ((List.range (m - len)).map fun j => D (len + j)))), z ≤ reachBytes := fun z hz => hsz z (by
      rw [hx.1]
      simp only [DataW.weights, Tryz.underlying38, hb32]
      exact hz)
    have hel : ∀ i, i < len → ∃ p : Prm, p.1.length ≤ 140737488355328 ∧ p.2.length ≤ 140737488355328 ∧ w.cell? (a.add (i * 2)) = some (.string (strL p.1)) ∧ w.cell? (a.add (i * 2 + 1)) = some (.string (strL p.2)) := fun i hil => by
      obtain ⟨cs', hc, ht'⟩ := hi i (by omega)
      obtain ⟨p, rfl, hp1, hp2⟩ := open_prm ht' (fun z hz => hw z (List.mem_cons_of_mem _ (List.mem_append.2 (.inl (weightsAll_inT (d := D i) (List.mem_map.2 ⟨i, List.mem_range.2 hil, rfl⟩) _ hz)))))
      rw [c2] at hc
      obtain ⟨_, _, hat⟩ := World.cells?_some hc
      refine ⟨p, hp1, hp2, ?_, ?_⟩
      · have := hat 0 (by omega)
        simpa [Addr.add] using this
      · have := hat 1 (by omega)
        rw [Go.Deep.add_add] at this
        simpa using this
    obtain ⟨f, hf⟩ := choose_lt hel
    have hlen32 : len * 32 ≤ reachBytes := by
      have := hw _ List.mem_cons_self
      simp at this
      omega
    have hll : ((List.range len).map f).length = len := by simp
    refine ⟨(List.range len).map f, ⟨⟨some a, cap, by rw [hll], by rw [hll]; exact hl, by unfold maxLen at hm; omega, fun e => (by cases e), ?_⟩, by rw [hll]; omega, fun r hr => ?_⟩⟩
    · rw [hll]
      by_cases h0 : len = 0
      · exact .inl h0
      · right
        obtain ⟨_, _, hc0, _⟩ := hf 0 (by omega)
        have hs := spot_noneT hc0 (.inl (by omega))
        have hlt := World.block_lt_of_cell? w _ hc0
        obtain ⟨b, o, s⟩ := a
        simp only at hs
        subst hs
        refine ⟨b, o, rfl, by simpa [Addr.add] using hlt, fun j v hv => ?_⟩
        have hjl := (List.getElem?_eq_some_iff.1 hv).1
        rw [sv_length, fl_length] at hjl
        simp at hjl
        obtain ⟨_, _, e1, e2⟩ := hf (j / 2) (by omega)
        rw [Addr.add_mid] at e1 e2
        have hjr : j / 2 < ((List.range len).map f).length := by simp; omega
        rcases (by omega : j = 2 * (j / 2) ∨ j = 2 * (j / 2) + 1) with e | e
        · rw [e, sv_some _ _ _ (fl_get0 _ (j / 2) hjr)] at hv
          rw [e, Nat.mul_comm 2, e1, ← hv]
          simp
        · rw [e, sv_some _ _ _ (fl_get1 _ (j / 2) hjr)] at hv
          rw [e, Nat.mul_comm 2, e2, ← hv]
          simp
    · simp only [List.mem_map, List.mem_range] at hr
      obtain ⟨i, hi', rfl⟩ := hr
      exact ⟨(hf i hi').1, (hf i hi').2.1⟩
/-- A resource that came in. -/
theorem open_res {H : Type} {enc : TypeId × Value → H} {w : World} {base b0 : Nat} {r : Reach} {sp : Nat → Bool} {held : Bool} {v : Value} {d : DataW H} {ps : List MemPlace}
    (hv : Value.okWide Tryz.prog w r b0 40 v) (h : DataW.Trod enc Tryz.prog w base sp held 40 v d ps) (hsz : ∀ n ∈ d.weights Tryz.prog 40, n ≤ reachBytes) :
    ∃ (t ti : List UInt8) (ao : Option Addr) (len cap : Nat) (P : List Prm), v = resV t ti (.slice ao len cap) ∧ PsIs w (.slice ao len cap) P ∧ t.length ≤ 140737488355328 ∧ ti.length ≤ 140737488355328 := by
  have h47 := reachBytes_lt
  obtain ⟨cs, rfl, hcs⟩ := okWide_struct Tryz.underlying40 hv
  rw [show Tryz.prog.cellsOf 40 = 3 by kernel_rfl] at hcs
  obtain ⟨fuel, hf⟩ := h
  obtain ⟨y0, y1, y2, n, hx, hl, h0, h1, h2⟩ := trod_struct3 Tryz.underlying40 hf
  have ci : Tryz.prog.cellsOf 9 = 1 := by kernel_rfl
  have cl : Tryz.prog.cellsOf 38 = 1 := by kernel_rfl
  match cs, hcs with
  | ⟨[c0, c1, c2]⟩, _ =>
    have i0 : DataW.trod enc Tryz.prog w base sp held n 9 [c0] = some y0 := by simpa [Value.cells, ci, cl] using h0
    have i1 : DataW.trod enc Tryz.prog w base sp held n 9 [c1] = some y1 := by simpa [Value.cells, ci, cl] using h1
    have i2 : DataW.trod enc Tryz.prog w base sp held n 38 [c2] = some (y2.1, y2.2) := by simpa [Value.cells, ci, cl] using h2
    obtain ⟨s, hs, hy, _⟩ := DataW.trod_string Tryz.underlying9 i0
    obtain ⟨s2, hs2, hy2, _⟩ := DataW.trod_string Tryz.underlying9 i1
    simp only [List.cons.injEq, and_true] at hs hs2
    subst hs hs2
    simp only [Prod.mk.injEq] at hx
    rw [hx.1] at hsz
    simp only [DataW.weights, Tryz.underlying40] at hsz
    have g0 := hsz s.data.toList.length (DataW.weights_mem_each (j := 0) (t := 9) (d := y0.1) rfl rfl _ (by rw [hy]; simp [DataW.weights]))
    have g1 := hsz s2.data.toList.length (DataW.weights_mem_each (j := 1) (t := 9) (d := y1.1) rfl rfl _ (by rw [hy2]; simp [DataW.weights]))
    obtain ⟨ao, len, cap, hc2⟩ := slice_cellsT Tryz.underlying38 i2
    simp only [List.cons.injEq, and_true] at hc2
    subst hc2
    obtain ⟨P, hP⟩ := open_params i2 (fun z hz => hsz z (DataW.weights_mem_each (j := 2) (t := 38) (d := y2.1) rfl rfl z hz))
    refine ⟨s.data.toList, s2.data.toList, ao, len, cap, P, ?_, hP, by omega, by omega⟩
    simp [resV, strL_of]
end Go.Proofs.YtoibiaccaacgiaaGreatDoor
