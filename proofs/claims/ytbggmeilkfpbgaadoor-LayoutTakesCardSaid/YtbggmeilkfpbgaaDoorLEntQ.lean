/-
  bytes.Equal, and a row of entries of one's own.
  Conditions: those that each theorem states.
-/
import Derived.Test.YtbggmeilkfpbgaaDoorLEntT
import Derived.Test.YtbggmeilkfpbgaaDoorLSplit
namespace Go.Proofs.YtbggmeilkfpbgaaDoor
open Go.RowKit Go.Maps

/-- What a slice of bytes is as a text. -/
def ConvIs (w : World) (v : Value) (l : List UInt8) : Prop := (convert 22 9 v).run Tryd.prog w = .ok (.string (strL l)) w
theorem SlIs.conv {w : World} {v : Value} {l : List UInt8} (h : SlIs w v l) : ConvIs w v l := convL h
theorem conv_empty (w : World) (ao : Option Addr) (cap : Nat) (h : ao = none → cap = 0) : ConvIs w (.slice ao 0 cap) [] := by
  unfold ConvIs
  cases ao with
  | none =>
    rw [h rfl]
    exact convL (.inr ⟨rfl, rfl⟩)
  | some ad =>
    have := run_convert_bytes_back (P := Tryd.prog) w 22 9 5 ad cap [] Tryd.underlying22 Tryd.underlying5 Tryd.underlying9 (fun j hj => by cases hj)
    exact this
theorem bytesEqual_any (v1 v2 : Value) (l1 l2 : List UInt8) (w : World) (h1 : ConvIs w v1 l1) (h2 : ConvIs w v2 l2) :
    Calls Tryd.prog 33 #[v1, v2] w fun e w' => e = .returned (.bool (decide (l1 = l2))) ∧ w = w' := by
  have hb : ∀ l : List UInt8, Lib.bytesOf (l.map fun b => (b.toNat : Int)) = l := fun l => by simp [Lib.bytesOf, Function.comp_def]
  have hs : ∀ l : List UInt8, strOfNums (l.map fun b => (b.toNat : Int)) = strL l := fun l => by simp [strOfNums, strL, Function.comp_def]
  refine (Any.bytes_Equal { Tryd.lays115 with } v1 v2 (l1.map fun b => (b.toNat : Int)) (l2.map fun b => (b.toNat : Int)) w (by rw [hs]; exact h1) (by rw [hs]; exact h2)).mono fun e w' ⟨he, hw⟩ => ⟨?_, hw.symm⟩
  rw [he, hb, hb]
  exact retB (by rw [Bool.eq_iff_iff]; simp)

theorem own_entsG {w : World} {base : Nat} {v : Value} {n : Nat} {l : List Ent} (h : w.ownsRow base 38 2 v n (ev l)) (hn : n ≤ 140737488355328) (hl : ∀ x ∈ l, x.2.length ≤ 140737488355328) : ∃ ao cap, v = .slice ao n cap ∧ n ≤ cap ∧ cap ≤ 9223372036854775807 ∧ EntsIs w ao n l := by
  have hll : l.length = n := by have := h.1; rw [ev_length] at this; omega
  obtain ⟨h1, ⟨rfl, h2⟩ | ⟨g, cap, cur, rfl, hb, hg, hc1, hc2, hcs, htk⟩⟩ := h
  · exact ⟨none, 0, by rw [h2], by omega, by omega, hll, by omega, .inl h2, hl⟩
  · refine ⟨_, _, rfl, hc1, by unfold maxLen at hc2; omega, hll, by omega, .inr ⟨g, 0, rfl, (Array.getElem?_eq_some_iff.1 hg).1, fun q u hu => ?_⟩, hl⟩
    rw [← htk] at hu
    have hq : q < n * 2 := by
      have := (List.getElem?_eq_some_iff.1 hu).1
      simp at this; omega
    rw [List.getElem?_take_of_lt hq] at hu
    rw [Nat.zero_add, cell_of_row w g q _ _ _ hg]
    simpa using hu
theorem own_ents {w : World} {base : Nat} {v : Value} {n : Nat} {l : List Ent} (h : w.ownsRow base 38 2 v n (ev l)) (hn : n ≤ 100000) (hl : ∀ x ∈ l, x.2.length ≤ 140737488355328) : ∃ ao cap, v = .slice ao n cap ∧ n ≤ cap ∧ cap ≤ 9223372036854775807 ∧ EntsIs w ao n l := own_entsG h (by omega) hl
end Go.Proofs.YtbggmeilkfpbgaaDoor
