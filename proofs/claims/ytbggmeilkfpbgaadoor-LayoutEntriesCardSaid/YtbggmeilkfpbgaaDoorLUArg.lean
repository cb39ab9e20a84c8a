/-
  Rows of entries as arguments, opened.
  Conditions: none.
-/
import Derived.Test.YtbggmeilkfpbgaaDoorLNArg
import Derived.Test.YtbggmeilkfpbgaaDoorLEnt
import Derived.OpenShut
import Derived.ChangeSame
namespace Go.Proofs.YtbggmeilkfpbgaaDoor
open Go.RowKit Go.ChangeShapes Go.WideShapes Go.Deep

theorem open_ent {H : Type} {enc : TypeId × Value → H} {w : World} {base fuel : Nat} {sp : Nat → Bool} {held : Bool} {cs : List Value} {x : DataW H × List MemPlace}
    (h : DataW.trod enc Tryd.prog w base sp held fuel 38 cs = some x) : ∃ (o : Ent) (y : DataW H), cs = [.int .i64 o.1, .string (strL o.2)] ∧ x.1 = .agg [y, .lit (.string o.2)] := by
  obtain ⟨y0, y1, n, hx, hl, h0, h1⟩ := trod_struct2 Tryd.underlying38 h
  have ci : Tryd.prog.cellsOf 3 = 1 := by kernel_rfl
  have cl : Tryd.prog.cellsOf 9 = 1 := by kernel_rfl
  rw [show Tryd.prog.cellsOf 38 = 2 by kernel_rfl] at hl
  match cs, hl with
  | [c0, c1], _ =>
    have i0 : DataW.trod enc Tryd.prog w base sp held n 3 [c0] = some y0 := by simpa [ci, cl] using h0
    have i1 : DataW.trod enc Tryd.prog w base sp held n 9 [c1] = some y1 := by simpa [ci, cl] using h1
    obtain ⟨k, hk, _, _⟩ := DataW.trod_int Tryd.underlying3 i0
    obtain ⟨s, hs, hy, _⟩ := DataW.trod_string Tryd.underlying9 i1
    simp only [List.cons.injEq, and_true] at hk hs
    subst hk hs
    exact ⟨(k, s.data.toList), y0.1, by simp [strL_of], by rw [hx, hy]⟩

theorem open_ents {H : Type} {enc : TypeId × Value → H} {w : World} {base fuel : Nat} {sp : Nat → Bool} {held : Bool} {ao : Option Addr} {len cap : Nat} {d : DataW H} {ps : List MemPlace}
    (h : DataW.trod enc Tryd.prog w base sp held fuel 34 [.slice ao len cap] = some (d, ps)) (hsz : ∀ n ∈ d.weights Tryd.prog 34, n ≤ reachBytes) :
    ∃ l : List Ent, EntsIs w ao len l ∧ len * 24 ≤ reachBytes ∧ (ao = none → cap = 0) := by
  have h47 := reachBytes_lt
  rcases open_slice Tryd.underlying34 h with ⟨hcs, _⟩ | ⟨a, len', cap', m, n, D, Pl, hcs, hb, hl, hm, hmm, hx, hi⟩
  · simp at hcs
    obtain ⟨rfl, rfl, rfl⟩ := hcs
    exact ⟨[], ⟨rfl, by omega, .inl rfl, fun x hx => by cases hx⟩, by omega, fun _ => rfl⟩
  · simp at hcs
    obtain ⟨rfl, rfl, rfl⟩ := hcs
    have hlm : len ≤ m := by rw [hmm]; split <;> omega
    simp only [Prod.mk.injEq] at hx
    have c2 : Tryd.prog.cellsOf 38 = 2 := by kernel_rfl
    have hel : ∀ i, i < len → ∃ o : Ent, (∃ y, D i = .agg [y, .lit (.string o.2)]) ∧ w.cell? (a.add (i * 2)) = some (.int .i64 o.1) ∧ w.cell? (a.add (i * 2 + 1)) = some (.string (strL o.2)) := fun i hil => by
      obtain ⟨cs', hc, ht'⟩ := hi i (by omega)
      obtain ⟨o, y, rfl, hD⟩ := open_ent ht'
      rw [c2] at hc
      obtain ⟨_, _, hat⟩ := World.cells?_some hc
      refine ⟨o, ⟨y, hD⟩, ?_, ?_⟩
      · have := hat 0 (by omega)
        simpa [Addr.add] using this
      · have := hat 1 (by omega)
        rw [Go.Deep.add_add] at this
        simpa using this
    obtain ⟨f, hf⟩ := choose_lt hel
    have hb24 : Tryd.prog.bytesOf 38 = 24 := by kernel_rfl
    have hw : ∀ z ∈ ((((List.range len).map D).length + ((List.range (m - len)).map fun j => D (len + j)).length) * 24 :: (DataW.weightsAll Tryd.prog 38 ((List.range len).map D) ++ DataW.weightsAll Tryd.prog 38 ((List.range (m - len)).map fun j => D (len + j)))), z ≤ reachBytes := fun z hz => hsz z (by
      rw [hx.1]
      simp only [DataW.weights, Tryd.underlying34, hb24]
      exact hz)
    have hlen24 : len * 24 ≤ reachBytes := by
      have := hw _ List.mem_cons_self
      simp at this
      omega
    have hlen : len ≤ reachBytes := by omega
    refine ⟨(List.range len).map f, ⟨by simp, by omega, ?_, fun x hx' => ?_⟩, hlen24, fun e => by cases e⟩
    · by_cases h0 : len = 0
      · exact .inl h0
      · right
        obtain ⟨_, hc0, _⟩ := hf 0 (by omega)
        have hs := spot_none hc0 (.inl (by omega))
        have hlt := World.block_lt_of_cell? w _ hc0
        obtain ⟨b, o, s⟩ := a
        simp only at hs
        subst hs
        refine ⟨b, o, rfl, by simpa [Addr.add] using hlt, fun j v hv => ?_⟩
        have hjl := (List.getElem?_eq_some_iff.1 hv).1
        rw [ev_length] at hjl
        simp at hjl
        obtain ⟨_, e1, e2⟩ := hf (j / 2) (by omega)
        rw [Addr.add_mid] at e1 e2
        rcases (by omega : j = 2 * (j / 2) ∨ j = 2 * (j / 2) + 1) with e | e
        · rw [e, ev_get0 _ (j / 2) (by simp; omega)] at hv
          rw [e, Nat.mul_comm 2, e1, ← hv]
          simp
        · rw [e, ev_get1 _ (j / 2) (by simp; omega)] at hv
          rw [e, Nat.mul_comm 2, e2, ← hv]
          simp
    · simp only [List.mem_map, List.mem_range] at hx'
      obtain ⟨i, hi', rfl⟩ := hx'
      obtain ⟨⟨y, hD⟩, _, _⟩ := hf i hi'
      have := hw (f i).2.length (List.mem_cons_of_mem _ (List.mem_append.2 (.inl (weightsAll_in (d := D i) (List.mem_map.2 ⟨i, List.mem_range.2 hi', rfl⟩) _ (by
        rw [hD]
        simp only [DataW.weights, Tryd.underlying38]
        exact DataW.weights_mem_each (j := 1) (t := 9) (d := .lit (.string (f i).2)) rfl rfl _ (by simp [DataW.weights]))))))
      omega

end Go.Proofs.YtbggmeilkfpbgaaDoor
