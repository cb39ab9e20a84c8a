/-
  Arguments of layer 2's statements, opened: [][]byte, []api.Put, []Op.
  Conditions: none.
-/
import Derived.Test.YtmckapfncnoddaaBytesArg
import Derived.Test.YtmckapfncnoddaaPuts
import Derived.Deep.Slices
namespace Go.Proofs.Ytmckapfncnoddaa
open Go.RowKit Go.ChangeShapes Go.WideShapes Go.Deep

theorem i64_bounds {n : Int} (h : (Lit.int .i64 n).wf = true) : -9223372036854775808 ≤ n ∧ n ≤ 9223372036854775807 := by
  simpa [Lit.wf, IntKind.min, IntKind.max, IntKind.signed, IntKind.bits] using h

/-- A slice whose elements each open to something. -/
def SliceOf {T : Type} (w : World) (sz : Nat) (Q : T → List Value → Prop) (ao : Option Addr) (len : Nat) (l : List T) : Prop :=
  l.length = len ∧ len ≤ 9223372036854775807 ∧ (len = 0 ∨ ∃ b o, ao = some ⟨b, o, none⟩ ∧ b < w.heap.size ∧
    ∀ i (hi : i < l.length), ∃ cs, Q l[i] cs ∧ cs.length = sz ∧ ∀ j v, cs[j]? = some v → w.cell? ⟨b, o + i * sz + j, none⟩ = some v)

theorem open_slice_of {T : Type} [Inhabited T] {H : Type} {enc : TypeId × Value → H} {w : World} {base fuel : Nat} {sp : Nat → Bool} {held : Bool} {ao : Option Addr} {len cap : Nat} {x : DataW H × List MemPlace} {t e : TypeId} {sz : Nat}
    (ht : Try.prog.underlying t = some (.slice e)) (hsz : Try.prog.cellsOf e = sz) (hsz0 : 0 < sz) (Q : T → List Value → Prop)
    (hel : ∀ cs fuel x, DataW.trod enc Try.prog w base sp held fuel e cs = some x → ∃ o, Q o cs)
    (h : DataW.trod enc Try.prog w base sp held fuel t [.slice ao len cap] = some x) : ∃ l : List T, SliceOf w sz Q ao len l := by
  rcases open_slice ht h with ⟨hcs, _⟩ | ⟨a, len', cap', m, n, D, Pl, hcs, hb, hl, hm, hmm, hx, hi⟩
  · simp at hcs
    obtain ⟨rfl, rfl, rfl⟩ := hcs
    exact ⟨[], rfl, by omega, .inl rfl⟩
  · simp at hcs
    obtain ⟨rfl, rfl, rfl⟩ := hcs
    have hlm : len ≤ m := by rw [hmm]; split <;> omega
    have hmax : len ≤ 9223372036854775807 := by unfold maxLen at hm; omega
    have hel' : ∀ i, i < len → ∃ o : T, ∃ cs, Q o cs ∧ cs.length = sz ∧ ∀ j v, cs[j]? = some v → w.cell? (a.add (i * sz + j)) = some v := fun i hil => by
      obtain ⟨cs', hc, ht'⟩ := hi i (by omega)
      obtain ⟨o, ho⟩ := hel _ _ _ ht'
      rw [hsz] at hc
      obtain ⟨_, hcl, hat⟩ := World.cells?_some hc
      refine ⟨o, cs', ho, hcl, fun j v hv => ?_⟩
      have hj : j < sz := by
        have := (List.getElem?_eq_some_iff.1 hv).1
        omega
      rw [← Go.Deep.add_add, hat j hj, hv]
    obtain ⟨f, hf⟩ := choose_lt hel'
    refine ⟨(List.range len).map f, by simp, hmax, ?_⟩
    by_cases h0 : len = 0
    · exact .inl h0
    · right
      obtain ⟨cs0, _, hl0, hc0⟩ := hf 0 (by omega)
      have hc0 := hc0 0 _ (List.getElem?_eq_getElem (by omega))
      have hs : a.spot = none := by
        simp only [Nat.zero_mul, Nat.add_zero, Addr.add, if_true] at hc0
        unfold World.cell? at hc0
        split at hc0
        · split at hc0
          · cases hc0
          · rename_i hh
            simpa using hh
        · cases hc0
      have hlt := World.block_lt_of_cell? w _ hc0
      obtain ⟨b, o, s⟩ := a
      simp only at hs
      subst hs
      refine ⟨b, o, rfl, by simpa [Addr.add] using hlt, fun i hi' => ?_⟩
      simp at hi'
      obtain ⟨cs, q1, q2, q3⟩ := hf i hi'
      refine ⟨cs, by simpa using q1, q2, fun j v hv => ?_⟩
      have := q3 j v hv
      rw [Addr.add_mid] at this
      rw [Nat.add_assoc]
      exact this

/-- An element of [][]byte. -/
def RowQ (w : World) (l : List UInt8) (cs : List Value) : Prop := ∃ ao len cap, cs = [.slice ao len cap] ∧ BytesArg w ao len l
theorem slice_cells {H : Type} {enc : TypeId × Value → H} {w : World} {base fuel : Nat} {sp : Nat → Bool} {held : Bool} {cs : List Value} {x : DataW H × List MemPlace} {t e : TypeId} (ht : Try.prog.underlying t = some (.slice e))
    (h : DataW.trod enc Try.prog w base sp held fuel t cs = some x) : ∃ ao len cap, cs = [.slice ao len cap] := by
  rcases open_slice ht h with ⟨hcs, _⟩ | ⟨a, len', cap', m, n, D, Pl, hcs, _⟩
  · exact ⟨_, _, _, hcs⟩
  · exact ⟨_, _, _, hcs⟩
theorem open_rowQ {H : Type} {enc : TypeId × Value → H} {w : World} {base fuel : Nat} {sp : Nat → Bool} {held : Bool} {cs : List Value} {x : DataW H × List MemPlace}
    (h : DataW.trod enc Try.prog w base sp held fuel 48 cs = some x) : ∃ l, RowQ w l cs := by
  obtain ⟨ao, len, cap, rfl⟩ := slice_cells Try.underlying48 h
  obtain ⟨l, hl⟩ := open_bytes h
  exact ⟨l, ao, len, cap, rfl, hl⟩
theorem open_rows {H : Type} {enc : TypeId × Value → H} {w : World} {base fuel : Nat} {sp : Nat → Bool} {held : Bool} {ao : Option Addr} {len cap : Nat} {x : DataW H × List MemPlace}
    (h : DataW.trod enc Try.prog w base sp held fuel 29 [.slice ao len cap] = some x) : ∃ l : List (List UInt8), SliceOf w 1 (RowQ w) ao len l :=
  open_slice_of Try.underlying29 (by kernel_rfl) (by omega) (RowQ w) (fun _ _ _ h => open_rowQ h) h

theorem BytesArg.slW {w : World} {ao : Option Addr} {len cap : Nat} {l : List UInt8} (h : BytesArg w ao len l) : SlW w (.slice ao len cap) l := by
  obtain ⟨rfl, _, h | ⟨b, o, rfl, hb, hr⟩⟩ := h
  · exact .inr ⟨ao, cap, by rw [h], List.length_eq_zero_iff.1 h⟩
  · exact .inl (.inl ⟨b, o, cap, rfl, hb, hr⟩)

/-- An element of []api.Put. -/
def PutQ (w : World) (p : PutL) (cs : List Value) : Prop := ∃ ao n cap, cs = [.int .i64 p.1, .slice ao n cap] ∧ SlW w (.slice ao n cap) p.2 ∧ -9223372036854775808 ≤ p.1 ∧ p.1 ≤ 9223372036854775807 ∧ n ≤ 9223372036854775807
theorem open_putQ {H : Type} {enc : TypeId × Value → H} {w : World} {base fuel : Nat} {sp : Nat → Bool} {held : Bool} {cs : List Value} {x : DataW H × List MemPlace}
    (h : DataW.trod enc Try.prog w base sp held fuel 54 cs = some x) : ∃ p, PutQ w p cs := by
  obtain ⟨ys, n, _, _, hlen, hys, hf⟩ := DataW.trod_struct Try.underlying54 h
  have hl : cs.length = 2 := by rw [hlen]; kernel_rfl
  have hy : ys.length = 2 := hys
  match cs, hl, ys, hy with
  | [c0, c1], _, [y0, y1], _ =>
    have k1 : Try.prog.cellsOf 3 = 1 := by kernel_rfl
    have k2 : Try.prog.cellsOf 48 = 1 := by kernel_rfl
    have f0 := hf 0 _ rfl
    have f1 := hf 1 _ rfl
    simp [k1, k2] at f0 f1
    obtain ⟨n0, e0, _, w0⟩ := DataW.trod_int Try.underlying3 f0
    obtain ⟨ao, len, cap, e1⟩ := slice_cells Try.underlying48 f1
    simp at e0 e1
    subst e0 e1
    obtain ⟨l, hl'⟩ := open_bytes f1
    exact ⟨(n0, l), ao, len, cap, rfl, hl'.slW, (i64_bounds w0).1, (i64_bounds w0).2, hl'.2.1⟩
theorem puts_of {w : World} {ao : Option Addr} {len : Nat} {l : List PutL} (h : SliceOf w 2 (PutQ w) ao len l) : PutsIs w ao len l := by
  obtain ⟨h1, h2, h3⟩ := h
  refine ⟨h1, h2, fun h0 => ?_⟩
  obtain ⟨b, o, rfl, hb, hi⟩ := h3.resolve_left (by omega)
  refine ⟨b, o, rfl, fun k hk => ?_⟩
  obtain ⟨cs, ⟨ao', n, cap, rfl, q1, q2⟩, _, hc⟩ := hi k hk
  exact ⟨ao', n, cap, hc 0 _ rfl, hc 1 _ rfl, q1, q2⟩

/-- A call of JournalCrashes. -/
structure OpV where
  kind : Int
  n : Int
  l : List PutL
instance : Inhabited OpV := ⟨⟨0, 0, []⟩⟩
def OpQ (w : World) (o : OpV) (cs : List Value) : Prop := ∃ ao len cap, cs = [.int .i64 o.kind, .int .i64 o.n, .slice ao len cap] ∧ PutsIs w ao len o.l ∧
  (-9223372036854775808 ≤ o.kind ∧ o.kind ≤ 9223372036854775807) ∧ (-9223372036854775808 ≤ o.n ∧ o.n ≤ 9223372036854775807)
theorem open_opQ {H : Type} {enc : TypeId × Value → H} {w : World} {base fuel : Nat} {sp : Nat → Bool} {held : Bool} {cs : List Value} {x : DataW H × List MemPlace}
    (h : DataW.trod enc Try.prog w base sp held fuel 34 cs = some x) : ∃ p, OpQ w p cs := by
  obtain ⟨ys, n, _, _, hlen, hys, hf⟩ := DataW.trod_struct Try.underlying34 h
  have hl : cs.length = 3 := by rw [hlen]; kernel_rfl
  have hy : ys.length = 3 := hys
  match cs, hl, ys, hy with
  | [c0, c1, c2], _, [y0, y1, y2], _ =>
    have k1 : Try.prog.cellsOf 3 = 1 := by kernel_rfl
    have k2 : Try.prog.cellsOf 32 = 1 := by kernel_rfl
    have f0 := hf 0 _ rfl
    have f1 := hf 1 _ rfl
    have f2 := hf 2 _ rfl
    simp [k1, k2] at f0 f1 f2
    obtain ⟨n0, e0, _, w0⟩ := DataW.trod_int Try.underlying3 f0
    obtain ⟨n1, e1, _, w1⟩ := DataW.trod_int Try.underlying3 f1
    obtain ⟨ao, len, cap, e2⟩ := slice_cells Try.underlying32 f2
    simp at e0 e1 e2
    subst e0 e1 e2
    obtain ⟨l, hl'⟩ := open_slice_of (sz := 2) Try.underlying32 (by kernel_rfl) (by omega) (PutQ w) (fun _ _ _ h => open_putQ h) f2
    exact ⟨⟨n0, n1, l⟩, ao, len, cap, rfl, puts_of hl', i64_bounds w0, i64_bounds w1⟩
theorem open_ops {H : Type} {enc : TypeId × Value → H} {w : World} {base fuel : Nat} {sp : Nat → Bool} {held : Bool} {ao : Option Addr} {len cap : Nat} {x : DataW H × List MemPlace}
    (h : DataW.trod enc Try.prog w base sp held fuel 22 [.slice ao len cap] = some x) : ∃ l : List OpV, SliceOf w 3 (OpQ w) ao len l :=
  open_slice_of Try.underlying22 (by kernel_rfl) (by omega) (OpQ w) (fun _ _ _ h => open_opQ h) h
end Go.Proofs.Ytmckapfncnoddaa
