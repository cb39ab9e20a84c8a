/-
  An argument of type []Op, opened: its elements, as lists of four numbers, and the cells that hold them.
  Conditions: none.
-/
import Derived.Test.YthhcopipamjelaaRows
import Derived.Test.YthhcopipamjelaaBase
import Derived.Deep.Slices
import Derived.Deep.Fields
import Derived.ChangeOld
namespace Go.Proofs.Ythhcopipamjelaa
open Go.RowKit Go.ChangeShapes Go.WideShapes Go.Deep

/-- An operation as a statement gets it: its four numbers. -/
structure OpV where
  kind : Int
  pos : Int
  n : Int
  byte : UInt8

instance : Inhabited OpV := ⟨⟨0, 0, 0, 0⟩⟩

def OpV.cells (o : OpV) : List Value := [.int .i64 o.kind, .int .i64 o.pos, .int .i64 o.n, .int .u8 (o.byte.toNat : Int)]

/-- Cell j of element i. -/
def OpsAt (w : World) (b o : Nat) (l : List OpV) : Prop := ∀ i (hi : i < l.length) j v, l[i].cells[j]? = some v → w.cell? ⟨b, o + i * 4 + j, none⟩ = some v

def OpV.fits (o : OpV) : Prop := (-9223372036854775808 ≤ o.kind ∧ o.kind ≤ 9223372036854775807) ∧ (-9223372036854775808 ≤ o.pos ∧ o.pos ≤ 9223372036854775807) ∧ (-9223372036854775808 ≤ o.n ∧ o.n ≤ 9223372036854775807)

theorem i64_bounds {n : Int} (h : (Lit.int .i64 n).wf = true) : -9223372036854775808 ≤ n ∧ n ≤ 9223372036854775807 := by
  simpa [Lit.wf, IntKind.min, IntKind.max, IntKind.signed, IntKind.bits] using h
theorem u8_bounds {n : Int} (h : (Lit.int .u8 n).wf = true) : 0 ≤ n ∧ n ≤ 255 := by
  simpa [Lit.wf, IntKind.min, IntKind.max, IntKind.signed, IntKind.bits] using h
theorem u8_byte {n : Int} (h : (Lit.int .u8 n).wf = true) : n = ((UInt8.ofNat n.toNat).toNat : Int) := by
  have := u8_bounds h
  simp; omega

theorem cellsOp : Try.prog.cellsOf 34 = 4 := by kernel_rfl

/-- One element's cells. -/
theorem open_op {H : Type} {enc : TypeId × Value → H} {w : World} {base fuel : Nat} {sp : Nat → Bool} {held : Bool} {cs : List Value} {x : DataW H × List MemPlace}
    (h : DataW.trod enc Try.prog w base sp held fuel 34 cs = some x) : ∃ o : OpV, o.fits ∧ cs = o.cells := by
  obtain ⟨ys, n, _, _, hlen, hys, hf⟩ := DataW.trod_struct Try.underlying34 h
  have hl : cs.length = 4 := by rw [hlen]; exact cellsOp
  have hy : ys.length = 4 := hys
  match cs, hl, ys, hy with
  | [c0, c1, c2, c3], _, [y0, y1, y2, y3], _ =>
    have k1 : Try.prog.cellsOf 3 = 1 := by kernel_rfl
    have k2 : Try.prog.cellsOf 5 = 1 := by kernel_rfl
    have f0 := hf 0 _ rfl
    have f1 := hf 1 _ rfl
    have f2 := hf 2 _ rfl
    have f3 := hf 3 _ rfl
    simp [k1, k2] at f0 f1 f2 f3
    obtain ⟨n0, e0, _, w0⟩ := DataW.trod_int Try.underlying3 f0
    obtain ⟨n1, e1, _, w1⟩ := DataW.trod_int Try.underlying3 f1
    obtain ⟨n2, e2, _, w2⟩ := DataW.trod_int Try.underlying3 f2
    obtain ⟨n3, e3, _, w3⟩ := DataW.trod_int Try.underlying5 f3
    simp at e0 e1 e2 e3
    subst e0 e1 e2 e3
    refine ⟨⟨n0, n1, n2, UInt8.ofNat n3.toNat⟩, ⟨i64_bounds w0, i64_bounds w1, i64_bounds w2⟩, ?_⟩
    simp only [OpV.cells]
    rw [← u8_byte w3]

/-- What a walk is told of an argument of type []Op. -/
def OpsArg (w : World) (ao : Option Addr) (len : Nat) (l : List OpV) : Prop :=
  l.length = len ∧ len ≤ 9223372036854775807 ∧ (∀ x ∈ l, x.fits) ∧ (len = 0 ∨ ∃ b o, ao = some ⟨b, o, none⟩ ∧ b < w.heap.size ∧ OpsAt w b o l)

theorem lt_of_cell {w : World} {p : Addr} {v : Value} (h : w.cell? p = some v) : p.block < w.heap.size := World.block_lt_of_cell? w p h

theorem open_ops {H : Type} {enc : TypeId × Value → H} {w : World} {base fuel : Nat} {sp : Nat → Bool} {held : Bool} {ao : Option Addr} {len cap : Nat} {x : DataW H × List MemPlace}
    (h : DataW.trod enc Try.prog w base sp held fuel 22 [.slice ao len cap] = some x) : ∃ l : List OpV, OpsArg w ao len l := by
  rcases open_slice Try.underlying22 h with ⟨hcs, _⟩ | ⟨a, len', cap', m, n, D, Pl, hcs, hb, hl, hm, hmm, hx, hi⟩
  · simp at hcs
    obtain ⟨rfl, rfl, rfl⟩ := hcs
    exact ⟨[], rfl, by omega, by simp, .inl rfl⟩
  · simp at hcs
    obtain ⟨rfl, rfl, rfl⟩ := hcs
    have hlm : len ≤ m := by rw [hmm]; split <;> omega
    have hmax : len ≤ 9223372036854775807 := by unfold maxLen at hm; omega
    have hel : ∀ i, i < len → ∃ o : OpV, o.fits ∧ ∀ j v, o.cells[j]? = some v → w.cell? (a.add (i * 4 + j)) = some v := fun i hil => by
      obtain ⟨cs', hc, ht⟩ := hi i (by omega)
      obtain ⟨o, hf, rfl⟩ := open_op ht
      rw [cellsOp] at hc
      obtain ⟨_, hcl, hat⟩ := World.cells?_some hc
      refine ⟨o, hf, fun j v hv => ?_⟩
      have hj : j < 4 := by
        have := (List.getElem?_eq_some_iff.1 hv).1
        simpa [OpV.cells] using this
      rw [← Go.Deep.add_add, hat j hj, hv]
    obtain ⟨f, hf⟩ := choose_lt hel
    refine ⟨(List.range len).map f, by simp, hmax, ?_, ?_⟩
    · intro x hx
      simp at hx
      obtain ⟨i, hi', rfl⟩ := hx
      exact (hf i hi').1
    · by_cases h0 : len = 0
      · exact .inl h0
      · right
        have hc0 := (hf 0 (by omega)).2 0 _ rfl
        have hs : a.spot = none := by
          simp only [Nat.zero_mul, Nat.add_zero, Addr.add, if_true] at hc0
          unfold World.cell? at hc0
          split at hc0
          · split at hc0
            · cases hc0
            · rename_i hh
              simpa using hh
          · cases hc0
        have hlt := lt_of_cell hc0
        obtain ⟨b, o, s⟩ := a
        simp only at hs
        subst hs
        refine ⟨b, o, rfl, by simpa [Addr.add] using hlt, fun i hi' j v hv => ?_⟩
        simp at hi' hv
        have := (hf i hi').2 j v hv
        rw [Addr.add_mid] at this
        rw [Nat.add_assoc]
        exact this

end Go.Proofs.Ythhcopipamjelaa
