/-
  Words as arguments, opened: []api.Word.
  Conditions: none.
-/
import Derived.Test.YtlbenaodpfhjeaaVApp
import Derived.Deep.Slices
import Derived.SliceStrings
import Derived.SizedLaws
import Derived.OpenShut
import Derived.ChangeSame
import Derived.Deep.Fields23
import Derived.Deep.Strs
namespace Go.Proofs.Ytlbenaodpfhjeaa
open Go.RowKit Go.ChangeShapes Go.WideShapes Go.Deep

instance : Inhabited Tka := ⟨⟨0, [], 0⟩⟩
theorem spot_none12 {w : World} {a : Addr} {i : Nat} {v : Value} (hc : w.cell? (a.add i) = some v) (hi : i = 0 ∨ a.spot = none) : a.spot = none := by
  rcases hi with rfl | h
  · simp only [Addr.add, if_true] at hc
    unfold World.cell? at hc
    split at hc
    · split at hc
      · cases hc
      · rename_i hh
        simpa using hh
    · cases hc
  · exact h
/-- A word's cells. -/
theorem open_wordc12 {H : Type} {enc : TypeId × Value → H} {w : World} {base fuel : Nat} {sp : Nat → Bool} {held : Bool} {cs : List Value} {x : DataW H × List MemPlace}
    (h : DataW.trod enc Try.prog w base sp held fuel 37 cs = some x) : ∃ e : Tka, cs = [.int .i64 e.kd, .string (strL e.tx), .int .i64 e.at'] := by
  obtain ⟨y0, y1, y2, n, hx, hl, h0, h1, h2⟩ := trod_struct3 Try.underlying37 h
  have ci : Try.prog.cellsOf 3 = 1 := by kernel_rfl
  have cs1 : Try.prog.cellsOf 9 = 1 := by kernel_rfl
  rw [show Try.prog.cellsOf 37 = 3 by kernel_rfl] at hl
  match cs, hl with
  | [c0, c1, c2], _ =>
    have i0 : DataW.trod enc Try.prog w base sp held n 3 [c0] = some y0 := by simpa [ci, cs1] using h0
    have i1 : DataW.trod enc Try.prog w base sp held n 9 [c1] = some y1 := by simpa [ci, cs1] using h1
    have i2 : DataW.trod enc Try.prog w base sp held n 3 [c2] = some y2 := by simpa [ci, cs1] using h2
    obtain ⟨a, ha, _⟩ := DataW.trod_int Try.underlying3 i0
    obtain ⟨b, hb, _, _⟩ := DataW.trod_string Try.underlying9 i1
    obtain ⟨c, hc, _⟩ := DataW.trod_int Try.underlying3 i2
    simp only [List.cons.injEq, and_true] at ha hb hc
    exact ⟨⟨a, b.data.toList, c⟩, by rw [ha, hb, hc]; rfl⟩
/-- A slice of words that came in. -/
theorem open_words12 {H : Type} {enc : TypeId × Value → H} {w : World} {base fuel : Nat} {sp : Nat → Bool} {held : Bool} {ao : Option Addr} {len cap : Nat} {d : DataW H} {ps : List MemPlace}
    (h : DataW.trod enc Try.prog w base sp held fuel 29 [.slice ao len cap] = some (d, ps)) (hsz : ∀ n ∈ d.weights Try.prog 29, n ≤ reachBytes) :
    ∃ l : List Tka, TaIs w (.slice ao len cap) l := by
  have h47 : reachBytes = 140737488351232 := by kernel_rfl
  rcases open_slice Try.underlying29 h with ⟨hcs, _⟩ | ⟨a, len', cap', m, n, D, Pl, hcs, hb, hl, hm, hmm, hx, hi⟩
  · simp at hcs
    obtain ⟨rfl, rfl, rfl⟩ := hcs
    exact ⟨[], TaIs.nil _⟩
  · simp at hcs
    obtain ⟨rfl, rfl, rfl⟩ := hcs
    have hlm : len ≤ m := by rw [hmm]; split <;> omega
    simp only [Prod.mk.injEq] at hx
    have c3 : Try.prog.cellsOf 37 = 3 := by kernel_rfl
    have hb32 : Try.prog.bytesOf 37 = 32 := by kernel_rfl
    have hel : ∀ i, i < len → ∃ o : Tka, w.cell? (a.add (i * 3)) = some (.int .i64 o.kd) ∧ w.cell? (a.add (i * 3 + 1)) = some (.string (strL o.tx)) ∧ w.cell? (a.add (i * 3 + 2)) = some (.int .i64 o.at') := fun i hil => by
      obtain ⟨cs', hc, ht'⟩ := hi i (by omega)
      obtain ⟨e, rfl⟩ := open_wordc12 ht'
      rw [c3] at hc
      obtain ⟨_, _, hat⟩ := World.cells?_some hc
      refine ⟨e, ?_, ?_, ?_⟩
      · have := hat 0 (by omega)
        simpa [Addr.add] using this
      · have := hat 1 (by omega)
        rw [Go.Deep.add_add] at this
        simpa using this
      · have := hat 2 (by omega)
        rw [Go.Deep.add_add] at this
        simpa using this
    obtain ⟨f, hf⟩ := choose_lt hel
    have hlen32 : len * 32 ≤ reachBytes := by
      have := hsz ((((List.range len).map D).length + ((List.range (m - len)).map fun j => D (len + j)).length) * 32) (by
        rw [hx.1]
        simp only [DataW.weights, Try.underlying29, hb32]
        exact List.mem_cons_self)
      simp at this
      omega
    have hll : ((List.range len).map f).length = len := by simp
    refine ⟨(List.range len).map f, ⟨⟨some a, cap, by rw [hll], by rw [hll]; exact hl, by unfold maxLen at hm; omega, fun e => (by cases e), ?_⟩, by rw [hll]; omega⟩⟩
    rw [hll]
    by_cases h0 : len = 0
    · exact .inl h0
    · right
      obtain ⟨hc0, _⟩ := hf 0 (by omega)
      have hs := spot_none12 hc0 (.inl (by omega))
      have hlt := World.block_lt_of_cell? w _ hc0
      obtain ⟨b, o, s⟩ := a
      simp only at hs
      subst hs
      refine ⟨b, o, rfl, by simpa [Addr.add] using hlt, fun j v hv => ?_⟩
      have hjl := (List.getElem?_eq_some_iff.1 hv).1
      rw [tcv_length] at hjl
      simp at hjl
      obtain ⟨e1, e2, e3⟩ := hf (j / 3) (by omega)
      rw [Addr.add_mid] at e1 e2 e3
      have hjr : j / 3 < ((List.range len).map f).length := by simp; omega
      obtain ⟨g0, g1, g2⟩ := tcv_get ((List.range len).map f) (j / 3) hjr
      rcases (by omega : j = 3 * (j / 3) ∨ j = 3 * (j / 3) + 1 ∨ j = 3 * (j / 3) + 2) with e | e | e
      · rw [e, g0] at hv
        rw [e, Nat.mul_comm 3, e1, ← hv]
        simp
      · rw [e, g1] at hv
        rw [e, Nat.mul_comm 3, e2, ← hv]
        simp
      · rw [e, g2] at hv
        rw [e, Nat.mul_comm 3, e3, ← hv]
        simp
end Go.Proofs.Ytlbenaodpfhjeaa
