/-
  Arguments of layer 3's statements, opened: []string, []int in a node, []api.Entry.
  Conditions: none.
-/
import Derived.Test.YtbggmeilkfpbgaaDoorBytesArg
import Derived.Test.YtbggmeilkfpbgaaDoorLNames
import Derived.Deep.Slices
import Derived.SliceStrings
import Derived.SizedLaws
namespace Go.Proofs.YtbggmeilkfpbgaaDoor
open Go.RowKit Go.ChangeShapes Go.WideShapes Go.Deep

theorem i64_bounds {n : Int} (h : (Lit.int .i64 n).wf = true) : -9223372036854775808 ≤ n ∧ n ≤ 9223372036854775807 := by
  simpa [Lit.wf, IntKind.min, IntKind.max, IntKind.signed, IntKind.bits] using h

/-- A slice whose elements each open to something. -/
def SliceOf {T : Type} (w : World) (sz : Nat) (Q : T → List Value → Prop) (ao : Option Addr) (len : Nat) (l : List T) : Prop :=
  l.length = len ∧ len ≤ 9223372036854775807 ∧ (len = 0 ∨ ∃ b o, ao = some ⟨b, o, none⟩ ∧ b < w.heap.size ∧
    ∀ i (hi : i < l.length), ∃ cs, Q l[i] cs ∧ cs.length = sz ∧ ∀ j v, cs[j]? = some v → w.cell? ⟨b, o + i * sz + j, none⟩ = some v)

theorem open_slice_of {T : Type} [Inhabited T] {H : Type} {enc : TypeId × Value → H} {w : World} {base fuel : Nat} {sp : Nat → Bool} {held : Bool} {ao : Option Addr} {len cap : Nat} {x : DataW H × List MemPlace} {t e : TypeId} {sz : Nat}
    (ht : Tryd.prog.underlying t = some (.slice e)) (hsz : Tryd.prog.cellsOf e = sz) (hsz0 : 0 < sz) (Q : T → List Value → Prop)
    (hel : ∀ cs fuel x, DataW.trod enc Tryd.prog w base sp held fuel e cs = some x → ∃ o, Q o cs)
    (h : DataW.trod enc Tryd.prog w base sp held fuel t [.slice ao len cap] = some x) : ∃ l : List T, SliceOf w sz Q ao len l := by
  rcases open_slice ht h with ⟨hcs, _⟩ | ⟨a, len', cap', m, n, D, Pl, hcs, hb, hl, hm, hmm, hx, hi⟩
  · simp at hcs
    obtain ⟨rfl, rfl, rfl⟩ := hcs
    exact ⟨[], rfl, by omega, .inl rfl⟩
  · simp at hcs
    obtain ⟨rfl, rfl, rfl⟩ := hcs
    have hlm : len ≤ m := by rw [hmm]; split <;> omega
    have hmax : len ≤ 9223372036854775807 := by unfold maxLen at hm; omega
    have hel' : ∀ i, i < len → ∃ o : T, ∃ cs, Q o cs ∧ cs.length = sz ∧ ∀ j v, cs[j]? = some v → w.cell? (a.add (i * sz + j)) = some v := fun i hil => by
      obtain ⟨cs', hc, ht'⟩ := hi i (by omega)
      obtain ⟨o, ho⟩ := hel _ _ _ ht'
      rw [hsz] at hc
      obtain ⟨_, hcl, hat⟩ := World.cells?_some hc
      refine ⟨o, cs', ho, hcl, fun j v hv => ?_⟩
      have hj : j < sz := by
        have := (List.getElem?_eq_some_iff.1 hv).1
        omega
      rw [← Go.Deep.add_add, hat j hj, hv]
    obtain ⟨f, hf⟩ := choose_lt hel'
    refine ⟨(List.range len).map f, by simp, hmax, ?_⟩
    by_cases h0 : len = 0
    · exact .inl h0
    · right
      obtain ⟨cs0, _, hl0, hc0⟩ := hf 0 (by omega)
      have hc0 := hc0 0 _ (List.getElem?_eq_getElem (by omega))
      have hs : a.spot = none := by
        simp only [Nat.zero_mul, Nat.add_zero, Addr.add, if_true] at hc0
        unfold World.cell? at hc0
        split at hc0
        · split at hc0
          · cases hc0
          · rename_i hh
            simpa using hh
        · cases hc0
      have hlt := World.block_lt_of_cell? w _ hc0
      obtain ⟨b, o, s⟩ := a
      simp only at hs
      subst hs
      refine ⟨b, o, rfl, by simpa [Addr.add] using hlt, fun i hi' => ?_⟩
      simp at hi'
      obtain ⟨cs, q1, q2, q3⟩ := hf i hi'
      refine ⟨cs, by simpa using q1, q2, fun j v hv => ?_⟩
      have := q3 j v hv
      rw [Addr.add_mid] at this
      rw [Nat.add_assoc]
      exact this

theorem slice_cells {H : Type} {enc : TypeId × Value → H} {w : World} {base fuel : Nat} {sp : Nat → Bool} {held : Bool} {cs : List Value} {x : DataW H × List MemPlace} {t e : TypeId} (ht : Tryd.prog.underlying t = some (.slice e))
    (h : DataW.trod enc Tryd.prog w base sp held fuel t cs = some x) : ∃ ao len cap, cs = [.slice ao len cap] := by
  rcases open_slice ht h with ⟨hcs, _⟩ | ⟨a, len', cap', m, n, D, Pl, hcs, _⟩
  · exact ⟨_, _, _, hcs⟩
  · exact ⟨_, _, _, hcs⟩
theorem weightsAll_in {H : Type} {P : Program} {e : TypeId} : ∀ {l : List (DataW H)} {d : DataW H}, d ∈ l → ∀ n ∈ d.weights P e, n ∈ DataW.weightsAll P e l
  | x :: l, d, hd, n, hn => by
    simp only [DataW.weightsAll, List.mem_append]
    rcases List.mem_cons.1 hd with rfl | hd
    · exact .inl hn
    · exact .inr (weightsAll_in hd n hn)
/-- A text inside a slice is no longer than a machine can hold. -/
theorem sized_str_in {H : Type} {P : Program} {ts : List TypeId} {ds : List (DataW H)} (h : (DataW.weightsEach P ts ds).all (· ≤ reachBytes) = true) {j : Nat} {t e : TypeId} {elems spare : List (DataW H)} {bytes : List UInt8}
    (ht : ts[j]? = some t) (hd : ds[j]? = some (.slice elems spare)) (hu : P.underlying t = some (.slice e)) (hx : DataW.lit (.string bytes) ∈ elems) : bytes.length ≤ reachBytes := by
  refine of_decide_eq_true (List.all_eq_true.1 h _ (DataW.weights_mem_each ht hd _ ?_))
  simp only [DataW.weights, hu, List.mem_cons, List.mem_append]
  exact Or.inr (Or.inl (weightsAll_in hx _ (by simp [DataW.weights])))

/-- What a place that holds a value says of its address. -/
theorem spot_none {w : World} {a : Addr} {i : Nat} {v : Value} (hc : w.cell? (a.add i) = some v) (hi : i = 0 ∨ a.spot = none) : a.spot = none := by
  rcases hi with rfl | h
  · simp only [Addr.add, if_true] at hc
    unfold World.cell? at hc
    split at hc
    · split at hc
      · cases hc
      · rename_i hh
        simpa using hh
    · cases hc
  · exact h

theorem open_strsA {H : Type} {enc : TypeId × Value → H} {w : World} {base fuel : Nat} {sp : Nat → Bool} {held : Bool} {ao : Option Addr} {len cap : Nat} {d : DataW H} {ps : List MemPlace} {ts : List TypeId} {ds : List (DataW H)} {j : Nat}
    (h : DataW.trod enc Tryd.prog w base sp held fuel 48 [.slice ao len cap] = some (d, ps)) (hsz : (DataW.weightsEach Tryd.prog ts ds).all (· ≤ reachBytes) = true) (ht : ts[j]? = some 48) (hd : ds[j]? = some d) :
    ∃ l : List (List UInt8), StrsA w ao len l := by
  rcases open_strings Tryd.underlying48 Tryd.underlying9 (by kernel_rfl) h with ⟨hcs, _⟩ | ⟨a, l', c', ss, hcs, _, hl, hm, hs, hx, hcell, hwz⟩
  · simp at hcs
    obtain ⟨rfl, rfl, rfl⟩ := hcs
    exact ⟨[], rfl, by omega, .inl rfl, by simp⟩
  · simp at hcs
    obtain ⟨rfl, rfl, rfl⟩ := hcs
    have hzl : len ≤ ss.length := by rw [hs]; split <;> omega
    have hmax : len ≤ 9223372036854775807 := by unfold maxLen at hm; omega
    simp only [Prod.mk.injEq] at hx
    rw [hx.1] at hd
    refine ⟨(ss.take len).map fun s => s.data.toList, by simp; omega, hmax, ?_, ?_⟩
    · by_cases h0 : len = 0
      · exact .inl h0
      · right
        have hc0 := hcell 0 (by omega)
        have hs := spot_none hc0 (.inl rfl)
        have hlt := World.block_lt_of_cell? w _ hc0
        obtain ⟨b, o, s⟩ := a
        simp only at hs
        subst hs
        refine ⟨b, o, rfl, by simpa [Addr.add] using hlt, fun i v hv => ?_⟩
        have hil : i < len := by
          have := (List.getElem?_eq_some_iff.1 hv).1
          simp [sv] at this; omega
        have hiz : i < ss.length := by omega
        have := hcell i hiz
        rw [Addr.add_mid] at this
        rw [this, ← hv]
        simp [sv, List.getElem?_take_of_lt hil, hiz, strL_of]
    · intro p hp
      simp only [List.mem_map] at hp
      obtain ⟨s, hs', rfl⟩ := hp
      have := sized_str_in hsz ht hd Tryd.underlying48 (bytes := s.data.toList) (by simp only [strs, List.mem_map]; exact ⟨s, hs', rfl⟩)
      have h47 := reachBytes_lt
      omega

end Go.Proofs.YtbggmeilkfpbgaaDoor
