/-
  Layer 5: rows in memory: a text and a slice of texts each, and slices of such rows.
  Conditions: those that each theorem states.
  Layer 5: which rows may be: the program's soundRow, soundRows, Check, and the document's Check.
  Conditions: those that each theorem states.
-/
import Derived.Test.YtfofhnbijjocfaaGreatDoorTWidth
namespace Go.Proofs.YtfofhnbijjocfaaGreatDoor
open Go.RowKit Go.Maps
set_option maxRecDepth 100000

/-- A row: its key, its cells. -/
abbrev TRow := List UInt8 × List (List UInt8)

def big : Nat := 140737488355328
/-- A slice of texts, as a value: what it reads as. -/
structure CellsIs (w : World) (v : Value) (l : List (List UInt8)) : Prop where
  val : ∃ ao cap, v = .slice ao l.length cap ∧ l.length ≤ cap ∧ cap ≤ 9223372036854775807 ∧ (ao = none → cap = 0) ∧ (l.length = 0 ∨ ∃ b o, ao = some ⟨b, o, none⟩ ∧ b < w.heap.size ∧ w.rangeAt b o (sv l))
  len : l.length * 16 ≤ 140737488355328
  each : ∀ x ∈ l, x.length ≤ 140737488355328
theorem CellsIs.kept {w w' : World} {v : Value} {l : List (List UInt8)} (h : CellsIs w v l) (hk : Kept [] w w') : CellsIs w' v l := by
  obtain ⟨⟨ao, cap, h1, h2, h3, h4, h5⟩, h6, h7⟩ := h
  refine ⟨⟨ao, cap, h1, h2, h3, h4, ?_⟩, h6, h7⟩
  rcases h5 with h5 | ⟨b, o, rfl, hb, hr⟩
  · exact .inl h5
  · exact .inr ⟨b, o, rfl, Nat.lt_of_lt_of_le hb hk.size, hk.range hb (by simp) hr⟩
theorem sv_get (l : List (List UInt8)) (j : Nat) (h : j < l.length) : (sv l)[j]? = some (.string (strL l[j])) := by simp [sv, h]
theorem sv_oneT (l : List (List UInt8)) : ∀ v ∈ sv l, v.oneCell' = true := by
  intro v hv
  simp [sv] at hv
  obtain ⟨c, _, rfl⟩ := hv
  rfl
/-- The same, opened. -/
theorem CellsIs.open {w : World} {v : Value} {l : List (List UInt8)} (h : CellsIs w v l) : ∃ ao cap, v = .slice ao l.length cap ∧ l.length ≤ cap ∧ cap ≤ 9223372036854775807 ∧ (ao = none → cap = 0) ∧
    (0 < l.length → ∃ b o, ao = some ⟨b, o, none⟩ ∧ b < w.heap.size ∧ ∀ k (hk : k < l.length), w.cell? ⟨b, o + k, none⟩ = some (.string (strL l[k]))) := by
  obtain ⟨ao, cap, h1, h2, h3, h4, h5⟩ := h.val
  refine ⟨ao, cap, h1, h2, h3, h4, fun h0 => ?_⟩
  rcases h5 with h5 | ⟨b, o, rfl, hb, hr⟩
  · omega
  · exact ⟨b, o, rfl, hb, fun k hk => hr k _ (sv_get l k hk)⟩
theorem CellsIs.nil (w : World) : CellsIs w (.slice none 0 0) [] := ⟨⟨none, 0, rfl, by simp, by omega, fun _ => rfl, .inl rfl⟩, by simp, fun x hx => by cases hx⟩

/-- The cells of rows: their keys, and the values of their cells' slices. -/
def rv : List TRow → List Value → List Value
  | r :: l, v :: vs => .string (strL r.1) :: v :: rv l vs
  | _, _ => []
theorem rv_length : ∀ (l : List TRow) (vs : List Value), vs.length = l.length → (rv l vs).length = 2 * l.length
  | [], [], _ => rfl
  | r :: l, v :: vs, h => by
    have := rv_length l vs (by simpa using h)
    simp [rv, this]; omega
theorem rv_get0 : ∀ (l : List TRow) (vs : List Value) (_ : vs.length = l.length) (i : Nat) (hi : i < l.length), (rv l vs)[2 * i]? = some (.string (strL l[i].1))
  | r :: l, v :: vs, _, 0, _ => rfl
  | r :: l, v :: vs, h, i + 1, hi => by
    have := rv_get0 l vs (by simpa using h) i (by simpa using hi)
    rw [show 2 * (i + 1) = 2 * i + 2 by omega]
    simpa [rv] using this
theorem rv_get1 : ∀ (l : List TRow) (vs : List Value) (_ : vs.length = l.length) (i : Nat) (_ : i < l.length), (rv l vs)[2 * i + 1]? = vs[i]?
  | r :: l, v :: vs, _, 0, _ => rfl
  | r :: l, v :: vs, h, i + 1, hi => by
    have := rv_get1 l vs (by simpa using h) i (by simpa using hi)
    rw [show 2 * (i + 1) + 1 = 2 * i + 1 + 2 by omega]
    simpa [rv] using this
theorem rv_append : ∀ (l : List TRow) (vs : List Value) (_ : vs.length = l.length) (l' : List TRow) (vs' : List Value), rv (l ++ l') (vs ++ vs') = rv l vs ++ rv l' vs'
  | [], [], _, _, _ => rfl
  | r :: l, v :: vs, h, l', vs' => by
    have := rv_append l vs (by simpa using h) l' vs'
    simp [rv, this]

/-- A slice of texts that the call itself made: a block of its own, from base on. -/
def DeepCell (base : Nat) (w : World) (v : Value) (l : List (List UInt8)) : Prop :=
  (v = .slice none 0 0 ∧ l = []) ∨ ∃ g, v = .slice (some ⟨g, 0, none⟩) l.length l.length ∧ base ≤ g ∧ w.heap[g]? = some (.cells (svA l) 9)
/-- A slice of texts; where D says so, of the call's own. -/
def CellsD (D : Option Nat) (w : World) (v : Value) (l : List (List UInt8)) : Prop := CellsIs w v l ∧ ∀ base, D = some base → DeepCell base w v l
/-- A slice does not lie in these blocks. -/
def OffV (D : Option Nat) (ex : List Nat) (v : Value) : Prop := ∀ b o n c, v = .slice (some ⟨b, o, none⟩) n c → (n ≠ 0 ∨ D ≠ none) → b ∉ ex
theorem OffV.empty (D : Option Nat) (v : Value) : OffV D [] v := fun _ _ _ _ _ _ => by simp
theorem CellsIs.keptX {w w' : World} {v : Value} {l : List (List UInt8)} {ex : List Nat} (h : CellsIs w v l) (hk : Kept ex w w') (hx : OffV none ex v) : CellsIs w' v l := by
  obtain ⟨⟨ao, cap, h1, h2, h3, h4, h5⟩, h6, h7⟩ := h
  refine ⟨⟨ao, cap, h1, h2, h3, h4, ?_⟩, h6, h7⟩
  by_cases h0 : l.length = 0
  · exact .inl h0
  · rcases h5 with h5 | ⟨b, o, rfl, hb, hr⟩
    · exact .inl h5
    · exact .inr ⟨b, o, rfl, Nat.lt_of_lt_of_le hb hk.size, hk.range hb (hx b o _ _ h1 (.inl h0)) hr⟩
theorem DeepCell.keptX {base : Nat} {w w' : World} {v : Value} {l : List (List UInt8)} {ex : List Nat} (h : DeepCell base w v l) (hk : Kept ex w w') (hx : OffV (some base) ex v) : DeepCell base w' v l := by
  rcases h with h | ⟨g, h1, h2, h3⟩
  · exact .inl h
  · exact .inr ⟨g, h1, h2, hk.heap (hx g 0 _ _ h1 (.inr (by simp))) h3⟩
theorem CellsD.keptX {D : Option Nat} {w w' : World} {v : Value} {l : List (List UInt8)} {ex : List Nat} (h : CellsD D w v l) (hk : Kept ex w w') (hx : OffV D ex v) : CellsD D w' v l :=
  ⟨h.1.keptX hk (fun b o n c e hn => hx b o n c e (.inl (by simpa using hn))), fun base hb => (h.2 base hb).keptX hk (fun b o n c e hn => hx b o n c e (.inr (by rw [hb]; simp)))⟩
theorem CellsD.kept {D : Option Nat} {w w' : World} {v : Value} {l : List (List UInt8)} (h : CellsD D w v l) (hk : Kept [] w w') : CellsD D w' v l := h.keptX hk (OffV.empty _ _)
theorem CellsIs.D {w : World} {v : Value} {l : List (List UInt8)} (h : CellsIs w v l) : CellsD none w v l := ⟨h, fun _ e => by cases e⟩
theorem CellsD.lt {D : Option Nat} {w : World} {v : Value} {l : List (List UInt8)} (h : CellsD D w v l) : ∀ b o n c, v = .slice (some ⟨b, o, none⟩) n c → (n ≠ 0 ∨ D ≠ none) → b < w.heap.size := by
  rintro b o n c rfl hn
  rcases hn with hn | hn
  · obtain ⟨ao, cap, h1, _, _, _, h5⟩ := h.1.val
    simp at h1
    rcases h5 with h5 | ⟨b', o', h6, hb, _⟩
    · omega
    · rw [h6] at h1
      simp at h1
      omega
  · cases D with
    | none => exact absurd rfl hn
    | some base =>
      rcases h.2 base rfl with ⟨h1, _⟩ | ⟨g, h1, _, h3⟩
      · simp at h1
      · simp at h1
        have := (Array.getElem?_eq_some_iff.1 h3).1
        omega
theorem DeepCell.cells {base : Nat} {w : World} {v : Value} {l : List (List UInt8)} (h : DeepCell base w v l) (h1 : l.length * 16 ≤ 140737488355328) (h2 : ∀ x ∈ l, x.length ≤ 140737488355328) : CellsIs w v l := by
  rcases h with ⟨rfl, rfl⟩ | ⟨g, rfl, hb, hg⟩
  · exact CellsIs.nil w
  · exact ⟨⟨_, _, rfl, Nat.le_refl _, by omega, fun e => (by cases e), .inr ⟨g, 0, rfl, (Array.getElem?_eq_some_iff.1 hg).1, range_svA hg⟩⟩, h1, h2⟩

/-- The slices of the rows' cells read as they are to. -/
def AllCells (D : Option Nat) (w : World) (vs : List Value) (l : List TRow) : Prop := vs.length = l.length ∧ ∀ i (hi : i < l.length) (hv : i < vs.length), CellsD D w vs[i] l[i].2
theorem AllCells.keptX {D : Option Nat} {w w' : World} {vs : List Value} {l : List TRow} {ex : List Nat} (h : AllCells D w vs l) (hk : Kept ex w w') (hx : ∀ v ∈ vs, OffV D ex v) : AllCells D w' vs l :=
  ⟨h.1, fun i hi hv => (h.2 i hi hv).keptX hk (hx _ (List.getElem_mem hv))⟩
theorem AllCells.kept {D : Option Nat} {w w' : World} {vs : List Value} {l : List TRow} (h : AllCells D w vs l) (hk : Kept [] w w') : AllCells D w' vs l := h.keptX hk fun _ _ => OffV.empty _ _
theorem AllCells.none {D : Option Nat} {w : World} {vs : List Value} {l : List TRow} (h : AllCells D w vs l) : AllCells none w vs l := ⟨h.1, fun i hi hv => (h.2 i hi hv).1.D⟩
theorem AllCells.snoc {D : Option Nat} {w : World} {vs : List Value} {l : List TRow} (h : AllCells D w vs l) {v : Value} {r : TRow} (hv : CellsD D w v r.2) : AllCells D w (vs ++ [v]) (l ++ [r]) := by
  refine ⟨by simp [h.1], fun i hi hv' => ?_⟩
  by_cases e : i < l.length
  · have e2 : i < vs.length := by rw [h.1]; exact e
    rw [List.getElem_append_left e2, List.getElem_append_left e]
    exact h.2 i e e2
  · have e1 : i = l.length := by rw [List.length_append, List.length_singleton] at hi; omega
    subst e1
    rw [List.getElem_append_right (by have := h.1; omega), List.getElem_append_right (by omega)]
    simpa [h.1] using hv
theorem AllCells.nil (D : Option Nat) (w : World) : AllCells D w [] [] := ⟨rfl, fun i hi => by cases hi⟩

/-- A slice of rows: what it reads as. -/
structure RowsIs (w : World) (ao : Option Addr) (len : Nat) (l : List TRow) : Prop where
  hlen : l.length = len
  bytes : len * 40 ≤ 140737488355328
  at' : ∃ vs, AllCells none w vs l ∧ (len = 0 ∨ ∃ b o, ao = some ⟨b, o, none⟩ ∧ b < w.heap.size ∧ w.rangeAt b o (rv l vs))
  keys : ∀ r ∈ l, r.1.length ≤ 140737488355328
theorem RowsIs.kept {w w' : World} {ao : Option Addr} {len : Nat} {l : List TRow} (h : RowsIs w ao len l) (hk : Kept [] w w') : RowsIs w' ao len l := by
  obtain ⟨h1, h2, ⟨vs, h3, h4⟩, h5⟩ := h
  refine ⟨h1, h2, ⟨vs, h3.kept hk, ?_⟩, h5⟩
  rcases h4 with h4 | ⟨b, o, rfl, hb, hr⟩
  · exact .inl h4
  · exact .inr ⟨b, o, rfl, Nat.lt_of_lt_of_le hb hk.size, hk.range hb (by simp) hr⟩
theorem RowsIs.cell {w : World} {ao : Option Addr} {len : Nat} {l : List TRow} (h : RowsIs w ao len l) (h0 : 0 < len) : ∃ b o, ao = some ⟨b, o, none⟩ ∧ b < w.heap.size ∧
    ∀ k (hk : k < l.length), ∃ v, w.cell? ⟨b, o + k * 2, none⟩ = some (.string (strL l[k].1)) ∧ w.cell? ⟨b, o + k * 2 + 1, none⟩ = some v ∧ CellsIs w v l[k].2 := by
  obtain ⟨h1, h2, ⟨vs, h3, h4⟩, h5⟩ := h
  rcases h4 with h4 | ⟨b, o, rfl, hb, hr⟩
  · omega
  · refine ⟨b, o, rfl, hb, fun k hk => ?_⟩
    have hv : k < vs.length := by rw [h3.1]; exact hk
    refine ⟨vs[k], ?_, ?_, (h3.2 k hk hv).1⟩
    · have := hr (2 * k) _ (rv_get0 l vs h3.1 k hk)
      rw [show k * 2 = 2 * k by omega]; exact this
    · have := hr (2 * k + 1) vs[k] (by rw [rv_get1 l vs h3.1 k hk]; simp [hv])
      rw [show o + k * 2 + 1 = o + (2 * k + 1) by omega]; exact this
theorem RowsIs.nil (w : World) (ao : Option Addr) : RowsIs w ao 0 [] := ⟨rfl, by omega, ⟨[], AllCells.nil _ w, .inl rfl⟩, fun r hr => by cases hr⟩
/-- A row as a value. -/
def rowV (k : List UInt8) (v : Value) : Value := .agg #[.string (strL k), v]

theorem elemStrT : ElemOk Tryz.prog 58 9 (.string (strL [])) 1 16 := ⟨Tryz.underlying58, by kernel_rfl, rfl, by omega⟩
theorem rv_one : ∀ (l : List TRow) (vs : List Value), (∀ v ∈ vs, v.oneCell' = true) → ∀ u ∈ rv l vs, u.oneCell' = true
  | [], _, _, u, hu => by simp [rv] at hu
  | r :: l, [], _, u, hu => by simp [rv] at hu
  | r :: l, v :: vs, h, u, hu => by
    simp only [rv, List.mem_cons] at hu
    rcases hu with rfl | rfl | hu
    · rfl
    · exact h _ (by simp)
    · exact rv_one l vs (fun x hx => h x (by simp [hx])) u hu
theorem CellsIs.one {w : World} {v : Value} {l : List (List UInt8)} (h : CellsIs w v l) : v.oneCell' = true := by
  obtain ⟨ao, cap, rfl, _⟩ := h.val
  rfl
theorem AllCells.one {D : Option Nat} {w : World} {vs : List Value} {l : List TRow} (h : AllCells D w vs l) : ∀ v ∈ vs, v.oneCell' = true := fun v hv => by
  obtain ⟨i, hi, rfl⟩ := List.getElem_of_mem hv
  exact (h.2 i (by rw [← h.1]; exact hi) hi).1.one

/-- A row of rows of the call's own. -/
structure OwnRows (D : Option Nat) (base : Nat) (w : World) (v : Value) (l : List TRow) : Prop where
  own : ∃ vs, w.ownsRow base 116 2 v l.length (rv l vs) ∧ AllCells D w vs l ∧ ∀ x ∈ vs, OffV D v.ownBlock.toList x
  bytes : l.length * 40 ≤ 140737488355328
  keys : ∀ r ∈ l, r.1.length ≤ 140737488355328
theorem OwnRows.rows {D : Option Nat} {base : Nat} {w : World} {v : Value} {l : List TRow} (h : OwnRows D base w v l) : ∃ ao cap, v = .slice ao l.length cap ∧ l.length ≤ cap ∧ cap ≤ 9223372036854775807 ∧ (ao = none → cap = 0) ∧ RowsIs w ao l.length l := by
  obtain ⟨⟨vs, h1, h3, _⟩, h4, h5⟩ := h
  obtain ⟨h1, ⟨rfl, h2⟩ | ⟨g, cap, cur, rfl, hb, hg, hc1, hc2, hcs, htk⟩⟩ := h1
  · exact ⟨none, 0, by rw [h2], by omega, by omega, fun _ => rfl, rfl, h4, ⟨vs, h3.none, .inl h2⟩, h5⟩
  · refine ⟨_, _, rfl, hc1, by unfold maxLen at hc2; omega, fun e => (by cases e), rfl, h4, ⟨vs, h3.none, .inr ⟨g, 0, rfl, (Array.getElem?_eq_some_iff.1 hg).1, fun q u hu => ?_⟩⟩, h5⟩
    rw [← htk] at hu
    have hq : q < l.length * 2 := by
      have := (List.getElem?_eq_some_iff.1 hu).1
      simp at this; omega
    rw [List.getElem?_take_of_lt hq] at hu
    rw [Nat.zero_add, cell_of_row w g q _ _ _ hg]
    simpa using hu
theorem OwnRows.nil (D : Option Nat) (base : Nat) (w : World) : OwnRows D base w (.slice none 0 0) [] := ⟨⟨[], World.ownsRow_nil w base _ 2, AllCells.nil _ w, fun x hx => by cases hx⟩, by simp, fun r hr => by cases hr⟩
theorem OwnRows.made (D : Option Nat) (w : World) : OwnRows D w.heap.size (w.alloc (.cells #[] 116)) (.slice (some ⟨w.heap.size, 0, none⟩) 0 0) [] :=
  ⟨⟨[], ⟨by simp [rv], .inr ⟨w.heap.size, 0, #[], rfl, Nat.le_refl _, heap_alloc_last _ _, Nat.le_refl _, by unfold maxLen; omega, rfl, rfl⟩⟩, AllCells.nil _ _, fun x hx => by cases hx⟩, by simp, fun r hr => by cases hr⟩
theorem OwnRows.kept {D : Option Nat} {base : Nat} {w w' : World} {v : Value} {l : List TRow} (h : OwnRows D base w v l) (hk : Kept [] w w') : OwnRows D base w' v l := by
  obtain ⟨⟨vs, h1, h3, h6⟩, h4, h5⟩ := h
  exact ⟨⟨vs, owns_kept h1 hk (by simp), h3.kept hk, h6⟩, h4, h5⟩
theorem OwnRows.blk {D : Option Nat} {base : Nat} {w : World} {v : Value} {l : List TRow} (h : OwnRows D base w v l) : ∀ q, v.ownBlock = some q → base ≤ q ∧ q < w.heap.size := by
  obtain ⟨vs, h1, _⟩ := h.own
  exact h1.lt

theorem AppB.intoR {D : Option Nat} {base : Nat} {w0 w w' : World} {v v' : Value} {l : List TRow} (hk : Kept [] w0 w) (h : AppB w v w' v') (ho : OwnRows D base w v l) (hb : w0.heap.size ≤ base) : Kept [] w0 w' :=
  hk.into h.kept fun q hq => by have := (ho.blk q (by simpa using hq)).1; omega

/-- 'append([]string{}, l...)'. -/
theorem copy_strs {w : World} {v : Value} {l : List (List UInt8)} (h : CellsIs w v l) :
    ∃ v' w', (Builtin.append_ #[58, 58] 58 #[.slice (some ⟨w.heap.size, 0, none⟩) 0 0, v]).run Tryz.prog (w.alloc (.cells #[] 9)) = .ok v' w' ∧ CellsIs w' v' l ∧ Kept [] w w' ∧ (∀ b o n c, v' = .slice (some ⟨b, o, none⟩) n c → w.heap.size ≤ b) ∧
      Kept [w.heap.size] (w.alloc (.cells #[] 9)) w' := by
  have how : (w.alloc (.cells #[] 9)).ownsRow w.heap.size 9 1 (.slice (some ⟨w.heap.size, 0, none⟩) 0 0) 0 [] :=
    ⟨by simp, .inr ⟨w.heap.size, 0, #[], rfl, Nat.le_refl _, heap_alloc_last _ _, Nat.le_refl _, by unfold maxLen; omega, rfl, rfl⟩⟩
  have hs0 : w.heap.size ≤ (w.alloc (.cells #[] 9)).heap.size := by rw [size_alloc]; omega
  have hk0 : Kept [] w (w.alloc (.cells #[] 9)) := Kept.alloc _ _ _
  obtain ⟨⟨ao, cap, rfl, h2, h3, h4, h5⟩, h6, h7⟩ := h
  have go : ∀ ad, (∀ j u, (sv l)[j]? = some u → (w.alloc (.cells #[] 9)).cell? (Addr.add ad j) = some u) → ao = some ad → ∃ v' w', (Builtin.append_ #[58, 58] 58 #[.slice (some ⟨w.heap.size, 0, none⟩) 0 0, .slice ao l.length cap]).run Tryz.prog (w.alloc (.cells #[] 9)) = .ok v' w' ∧ CellsIs w' v' l ∧ Kept [] w w' ∧ (∀ b o n c, v' = .slice (some ⟨b, o, none⟩) n c → w.heap.size ≤ b) ∧
      Kept [w.heap.size] (w.alloc (.cells #[] 9)) w' := by
    rintro ad hsrc rfl
    obtain ⟨v7, w7, hrun, hown, hk7, _⟩ := own_app elemStrT 58 (w.alloc (.cells #[] 9)) w.heap.size _ 0 [] how ad l.length cap (sv l) (by rw [sv_length]; omega) hsrc (sv_oneT _) (by unfold maxLen; omega) (by omega) hs0
    rw [Nat.zero_add, List.nil_append] at hown
    have hk8 : Kept [w.heap.size] (w.alloc (.cells #[] 9)) w7 := hk7
    rcases owns_range hown with ⟨g, cap', rfl, hbg, hg, hc, hm, hr⟩ | ⟨rfl, hn, _⟩
    · refine ⟨_, w7, hrun, ⟨⟨_, _, rfl, hc, by unfold maxLen at hm; omega, fun e => (by cases e), .inr ⟨g, 0, rfl, hg, hr⟩⟩, h6, h7⟩, hk0.own how (Nat.le_refl _) hk7, ?_, hk8⟩
      intro b o n c e
      simp at e
      omega
    · refine ⟨_, w7, hrun, ⟨⟨_, _, by rw [hn], by omega, by omega, fun _ => rfl, .inl hn⟩, h6, h7⟩, hk0.own how (Nat.le_refl _) hk7, ?_, hk8⟩
      intro b o n c e
      simp at e
  rcases h5 with h0 | ⟨b, o, rfl, hbl, hr⟩
  · obtain rfl : l = [] := List.eq_nil_of_length_eq_zero h0
    cases ao with
    | some ad => exact go ad (fun j u hu => by simp [sv] at hu) rfl
    | none =>
      obtain ⟨i, hi, _⟩ := info_parts elemStrT.info
      have hrun := run_append_owned_none (P := Tryz.prog) (w := w.alloc (.cells #[] 9)) w.heap.size 58 58 9 i 1 Tryz.underlying58 hi _ 0 [] how
      rw [h4 rfl]
      refine ⟨_, _, hrun, ⟨⟨_, _, rfl, by simp, by omega, fun e => (by cases e), .inl rfl⟩, h6, h7⟩, hk0, ?_, Kept.refl _ _⟩
      intro b o n c e
      simp at e
      omega
  · exact go ⟨b, o, none⟩ (fun j u hu => by rw [Addr.add_mid]; exact hk0.range hbl (by simp) hr j u hu) rfl
theorem row_setCell {w : World} {b : Nat} {A : Array Value} {t : TypeId} (h : w.heap[b]? = some (.cells A t)) (k : Nat) (v : Value) : (w.setCell ⟨b, k, none⟩ v).heap[b]? = some (.cells (A.setIfInBounds k v) t) := by
  simp only [World.setCell]
  rw [Array.getElem?_modify, if_pos rfl, h]
  rfl
end Go.Proofs.YtfofhnbijjocfaaGreatDoor

namespace Go.Proofs.YtfofhnbijjocfaaGreatDoor
open Go.RowKit Go.Maps
set_option maxRecDepth 100000

/-- A row that may be, of a table whose rows have n cells. -/
def rowB (n : Int) (r : TRow) : Bool := decide (r.1 ≠ []) && (wordB r.1 32 && (decide ((r.2.length : Int) = n) && r.2.all fun c => wordB c 64))
def goodR (n : Int) (l : List TRow) : Bool := decide (∀ i, (hi : i < l.length) → rowB n l[i] = true ∧ (0 < i → lessB (l[i - 1]'(by omega)).1 l[i].1 = true))
theorem goodR_of {n : Int} {l : List TRow} (h : ∀ i, (hi : i < l.length) → rowB n l[i] = true ∧ (0 < i → lessB (l[i - 1]'(by omega)).1 l[i].1 = true)) : goodR n l = true := decide_eq_true h
theorem not_goodR {n : Int} {l : List TRow} (i : Nat) (hi : i < l.length) (h : rowB n l[i] = false ∨ (0 < i ∧ lessB (l[i - 1]'(by omega)).1 l[i].1 = false)) : goodR n l = false := by
  refine decide_eq_false fun ha => ?_
  obtain ⟨h1, h2⟩ := ha i hi
  rcases h with h | ⟨h0, h⟩
  · rw [h1] at h; cases h
  · rw [h2 h0] at h; cases h
theorem rowB_empty {n : Int} {k : List UInt8} {c : List (List UInt8)} (h : k = []) : rowB n (k, c) = false := by
  unfold rowB
  rw [decide_eq_false (by simp [h]), Bool.false_and]
theorem rowB_key {n : Int} {k : List UInt8} {c : List (List UInt8)} (h : wordB k 32 = false) : rowB n (k, c) = false := by
  unfold rowB
  simp [h]
theorem rowB_len {n : Int} {k : List UInt8} {c : List (List UInt8)} (h : (c.length : Int) ≠ n) : rowB n (k, c) = false := by
  unfold rowB
  simp [h]
theorem rowB_cell {n : Int} {k : List UInt8} {c : List (List UInt8)} (i : Nat) (hi : i < c.length) (h : wordB c[i] 64 = false) : rowB n (k, c) = false := by
  have : c.all (fun c => wordB c 64) = false := by
    rw [Bool.eq_false_iff]
    intro hh
    rw [List.all_eq_true] at hh
    rw [hh _ (List.getElem_mem hi)] at h
    cases h
  unfold rowB
  simp only [this, Bool.and_false]
theorem rowB_yes {n : Int} {k : List UInt8} {c : List (List UInt8)} (h1 : k ≠ []) (h2 : wordB k 32 = true) (h3 : (c.length : Int) = n) (h : ∀ i (hi : i < c.length), wordB c[i] 64 = true) : rowB n (k, c) = true := by
  have : c.all (fun c => wordB c 64) = true := by
    rw [List.all_eq_true]
    intro x hx
    obtain ⟨i, hi, rfl⟩ := List.getElem_of_mem hx
    exact h i hi
  unfold rowB
  simp only [this, h2, decide_eq_true h1, decide_eq_true h3, Bool.and_self]

set_option maxRecDepth 100000 in
set_option maxHeartbeats 4000000 in
theorem soundRow_any (k : List UInt8) (v : Value) (c : List (List UInt8)) (n : Int) (w : World) (hkl : k.length ≤ 140737488355328) (hc : CellsIs w v c) :
    Calls Tryz.prog 93 #[rowV k v, .int .i64 n] w fun e w' => e = .returned (.bool (rowB n (k, c))) ∧ Kept [] w w' := by
  have HC := Lib.hid hc
  obtain ⟨ao, cap, rfl, h2, h3, h4, h5⟩ := hc.open
  have hcl : c.length ≤ 140737488355328 := by have := hc.len; omega
  have HT := Lib.hid (strL_bytes k)
  have H5 := Lib.hid h5
  have H4 := Lib.hid h4
  clear hc h5 h4
  unfold rowV
  have HK := Lib.hid (Kept.alloc [] w (.cells #[.string (strL k), .slice ao c.length cap] 116))
  by_cases e1 : k = []
  · have HB := Lib.hid (rowB_empty (n := n) (c := c) e1)
    have q1 : ((strL k).toList == []) = true := by rw [HT.out, e1]; rfl
    clear e1
    go_enter Tryz.func93, Tryz.ntmps93
    go_wp2_with fail
    go_ret
    exact ⟨retB HB.out.symm, HK.out⟩
  · have q1 : ((strL k).toList == []) = false := by rw [HT.out]; simpa using e1
    have H1 := Lib.hid e1
    clear e1
    cases hb : wordB k 32
    · have HB := Lib.hid (rowB_key (n := n) (c := c) hb)
      have HW := Lib.hid hb
      clear hb
      go_enter Tryz.func93, Tryz.ntmps93
      go_wp2_with fail
      refine (word_any k 32 _ (by omega)).mono ?_
      rw [HW.out]
      rintro e w' ⟨rfl, rfl⟩
      go_wp2_with fail
      go_ret
      exact ⟨retB HB.out.symm, HK.out⟩
    · have HW := Lib.hid hb
      clear hb
      by_cases e3 : (c.length : Int) = n
      · have H3 := Lib.hid e3
        have q3 : ((c.length : Int) != n) = false := by simpa using e3
        clear e3
        go_enter Tryz.func93, Tryz.ntmps93
        go_wp2_with fail
        refine (word_any k 32 _ (by omega)).mono ?_
        rw [HW.out]
        rintro e w' ⟨rfl, rfl⟩
        go_wp2_with fail
        go_loop [26] (fun i => ∃ j : Nat, j ≤ c.length ∧ i = .int .i64 j ∧ Hid (∀ q (hq : q < c.length), q < j → wordB c[q] 64 = true)) (fun i => c.length - (intOf i).toNat)
        case atStart => exact ⟨0, by omega, rfl, fun j hj h0 => by omega⟩
        case round =>
          obtain ⟨j, hj, rfl, HJ⟩ := hrel
          by_cases hlt : j < c.length
          · obtain ⟨b, o, rfl, hb, hcell⟩ := H5.out (by omega)
            have c1 := hcell j hlt
            obtain ⟨x, hx⟩ : ∃ x, c[j] = x := ⟨_, rfl⟩
            rw [hx] at c1
            have HX := Lib.hid hx
            have HXL : Hid (x.length ≤ 140737488355328) := by show _ ≤ _; rw [← hx]; exact HC.out.each _ (List.getElem_mem hlt)
            clear hx hcell
            have c2 : (w.alloc (.cells #[.string (strL k), .slice (some ⟨b, o, none⟩) c.length cap] 116)).cell? ⟨b, o + j, none⟩ = some (.string (strL x)) := by
              rw [World.cell?_alloc_old _ _ _ (by simp; omega)]; exact c1
            cases hn : wordB x 64
            all_goals
              have HN := Lib.hid hn
              clear hn
              go_wp2_with fail
              refine (word_any x 64 _ (by have := HXL.out; omega)).mono ?_
              rw [HN.out]
              rintro e w' ⟨rfl, rfl⟩
              go_wp2_with fail
            · go_ret
              exact ⟨retB (rowB_cell j hlt (by rw [HX.out]; exact HN.out)).symm, HK.out⟩
            · go_round
              case rel =>
                refine ⟨j + 1, by omega, by go_num, fun q hq h0 => ?_⟩
                by_cases e : q = j
                · subst e; rw [HX.out]; exact HN.out
                · exact HJ.out q hq (by omega)
              case measure => simp [intOf]; omega
          · have HB : Hid (rowB n (k, c) = true) := rowB_yes H1.out HW.out H3.out fun i hi => HJ.out i hi (by omega)
            go_wp2_with fail
            go_ret
            exact ⟨retB HB.out.symm, HK.out⟩
      · have HB := Lib.hid (rowB_len (k := k) e3)
        have q3 : ((c.length : Int) != n) = true := by simpa using e3
        clear e3
        go_enter Tryz.func93, Tryz.ntmps93
        go_wp2_with fail
        refine (word_any k 32 _ (by omega)).mono ?_
        rw [HW.out]
        rintro e w' ⟨rfl, rfl⟩
        go_wp2_with fail
        go_ret
        exact ⟨retB HB.out.symm, HK.out⟩

/-- What Check answers. -/
def checkI (t : List UInt8) (r : TRow) : Int := if widthI t = 0 then 50 else if rowB (widthI t) r = true then 0 else 51

set_option maxHeartbeats 2000000 in
theorem check_any (t k : List UInt8) (v : Value) (c : List (List UInt8)) (w : World) (ht : t.length ≤ 9223372036854775807) (hkl : k.length ≤ 140737488355328) (hc : CellsIs w v c) :
    Calls Tryz.prog 88 #[.string (strL t), rowV k v] w fun e w' => e = .returned (.int .i64 (checkI t (k, c))) ∧ Kept [] w w' := by
  have HC := Lib.hid hc
  have hvs : ∃ u m c, v = .slice u m c := by obtain ⟨u, c, rfl, _⟩ := hc.val; exact ⟨u, _, c, rfl⟩
  obtain ⟨vu, vm, vc, rfl⟩ := hvs
  clear hc
  unfold rowV
  have HK := Lib.hid (Kept.alloc [] w (.cells #[.string (strL k), .slice vu vm vc] 116))
  have HR : Hid (checkI t (k, c) = if widthI t = 0 then 50 else if rowB (widthI t) (k, c) = true then 0 else 51) := rfl
  obtain ⟨n, hn⟩ : ∃ n, widthI t = n := ⟨_, rfl⟩
  have HN := Lib.hid hn
  by_cases h0 : n = 0
  · have HR2 : Hid (checkI t (k, c) = 50) := by show _ = _; rw [HR.out, hn, if_pos h0]
    have q0 : (n == 0) = true := by simpa using h0
    clear hn h0 HR
    go_enter Tryz.func88, Tryz.ntmps88
    go_wp2_with fail
    refine (width_any t _ ht).mono ?_
    rw [HN.out]
    rintro e w1 ⟨rfl, hk1⟩
    have HK1 := Lib.hid hk1
    clear hk1
    go_wp2_with fail
    go_ret
    exact ⟨ret1 HR2.out.symm, HK.out.trans HK1.out⟩
  · have q0 : (n == 0) = false := by simpa using h0
    cases hg : rowB n (k, c)
    all_goals
      have HG := Lib.hid hg
      have HR2 : Hid (checkI t (k, c) = if rowB n (k, c) = true then 0 else 51) := by show _ = _; rw [HR.out, hn, if_neg h0]
      rw [hg] at HR2
      clear hg hn
      go_enter Tryz.func88, Tryz.ntmps88
      go_wp2_with fail
      refine (width_any t _ ht).mono ?_
      rw [HN.out]
      rintro e w1 ⟨rfl, hk1⟩
      have HK1 := Lib.hid hk1
      have c0 : w1.cell? ⟨w.heap.size, 0, none⟩ = some (.string (strL k)) := by
        rw [hk1.cell (by rw [size_alloc]; exact Nat.lt_succ_self _) (by simp)]
        exact cell_of_row _ _ 0 _ _ _ (heap_alloc_last w _)
      have c1 : w1.cell? ⟨w.heap.size, 1, none⟩ = some (.slice vu vm vc) := by
        rw [hk1.cell (by rw [size_alloc]; exact Nat.lt_succ_self _) (by simp)]
        exact cell_of_row _ _ 1 _ _ _ (heap_alloc_last w _)
      clear hk1
      go_wp2_with fail
      refine (soundRow_any k _ c n _ hkl ((HC.out.kept HK.out).kept HK1.out)).mono ?_
      rw [HG.out]
      rintro e w2 ⟨rfl, hk2⟩
      have HK2 := Lib.hid hk2
      clear hk2
      go_wp2_with fail
      go_ret
      exact ⟨ret1 HR2.out.symm, (HK.out.trans HK1.out).trans HK2.out⟩
end Go.Proofs.YtfofhnbijjocfaaGreatDoor
