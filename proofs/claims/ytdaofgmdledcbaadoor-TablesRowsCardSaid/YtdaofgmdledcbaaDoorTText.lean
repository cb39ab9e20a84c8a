/-
  Layer 5: a text of sound rows is read as these rows (no program text).
  Conditions: those that each theorem states.
-/
import Derived.Test.YtdaofgmdledcbaaDoorTParse
namespace Go.Proofs.YtdaofgmdledcbaaDoor
open Go.RowKit Go.Maps

theorem word_no {l : List UInt8} {m : Int} (h : wordB l m = true) : ∀ x ∈ l, x ≠ 58 ∧ x ≠ 10 := by
  intro x hx
  simp only [wordB, Bool.and_eq_true, List.all_eq_true] at h
  have := h.2 x hx
  constructor
  · rintro rfl
    revert this
    decide
  · rintro rfl
    revert this
    decide
theorem indexByte_at (c : UInt8) : ∀ (a b : List UInt8), (∀ x ∈ a, x ≠ c) → Lib.indexByte (a ++ c :: b) c = (a.length : Int)
  | [], b, _ => by simp [Lib.indexByte]
  | x :: a, b, h => by
    have ih := indexByte_at c a b fun y hy => h y (by simp [hy])
    have hx := h x (by simp)
    rw [List.cons_append, Lib.indexByte, ih, if_neg (by simpa using hx)]
    have : ¬ ((a.length : Int) == -1) = true := by simp
    rw [if_neg this]
    simp
theorem firstC_at (c : UInt8) (a b : List UInt8) (h : ∀ x ∈ a, x ≠ c) : firstC c (a ++ c :: b) = (a, b) := by
  rw [firstC_hit (i := a.length) (by rw [Lib.index_one]; exact indexByte_at c a b h)]
  simp
theorem cut_cells : ∀ (k : List UInt8) (c : List (List UInt8)), (∀ x ∈ k, x ≠ 58) → (∀ y ∈ c, ∀ x ∈ y, x ≠ 58) → cutC 58 (k ++ cellsL c) = k :: c
  | k, [], hk, _ => by
    rw [show cellsL [] = [] from rfl, List.append_nil]
    exact cutC_miss k hk
  | k, y :: c, hk, hc => by
    rw [show cellsL (y :: c) = 58 :: (y ++ cellsL c) from rfl, cutC_hit _ _ hk, cut_cells y c (hc y (by simp)) fun z hz => hc z (by simp [hz])]
theorem cells_no10 : ∀ (c : List (List UInt8)), (∀ y ∈ c, ∀ x ∈ y, x ≠ 10) → ∀ x ∈ cellsL c, x ≠ 10
  | [], _, x, hx => by simp [cellsL] at hx
  | y :: c, h, x, hx => by
    rw [show cellsL (y :: c) = 58 :: (y ++ cellsL c) from rfl] at hx
    simp only [List.mem_cons, List.mem_append] at hx
    rcases hx with rfl | hx | hx
    · decide
    · exact h y (by simp) x hx
    · exact cells_no10 c (fun z hz => h z (by simp [hz])) x hx
theorem rowB_parts {n : Int} {r : TRow} (h : rowB n r = true) : r.1 ≠ [] ∧ wordB r.1 32 = true ∧ (r.2.length : Int) = n ∧ ∀ c ∈ r.2, wordB c 64 = true := by
  simp only [rowB, Bool.and_eq_true, decide_eq_true_eq, List.all_eq_true] at h
  exact h
theorem row_free {n : Int} {r : TRow} (h : rowB n r = true) : ∀ x ∈ r.1 ++ cellsL r.2, x ≠ 10 := by
  obtain ⟨_, h2, _, h4⟩ := rowB_parts h
  intro x hx
  rcases List.mem_append.1 hx with hx | hx
  · exact (word_no h2 x hx).2
  · exact cells_no10 r.2 (fun y hy x hx => (word_no (h4 y hy) x hx).2) x hx
theorem line_row {n : Int} {r : TRow} (h : rowB n r = true) : lineR (r.1 ++ cellsL r.2) = r := by
  obtain ⟨_, h2, _, h4⟩ := rowB_parts h
  unfold lineR
  rw [cut_cells r.1 r.2 (fun x hx => (word_no h2 x hx).1) fun y hy x hx => (word_no (h4 y hy) x hx).1]
  rfl
theorem rowL_eq (r : TRow) (t : List UInt8) : rowL r ++ t = (r.1 ++ cellsL r.2) ++ 10 :: t := by simp [rowL]
/-- What was written is read as it was. -/
theorem read_text {n : Int} : ∀ (l : List TRow), (∀ r ∈ l, rowB n r = true) → readL (textL l) = l
  | [], _ => readL_nil
  | r :: l, h => by
    have hr := h r (by simp)
    have e : textL (r :: l) = (r.1 ++ cellsL r.2) ++ 10 :: textL l := by
      rw [show textL (r :: l) = rowL r ++ textL l from rfl, rowL_eq]
    have hne : textL (r :: l) ≠ [] := by rw [e]; simp
    rw [readL_step hne, e, firstC_at 10 _ _ (row_free hr), line_row hr, read_text l fun y hy => h y (by simp [hy])]

theorem print_ok {t : List UInt8} {l : List TRow} {c : List UInt8} (h : printE t l = (0, c)) : widthI t ≠ 0 ∧ l.length ≤ 32 ∧ goodR (widthI t) l = true ∧ c = textL l ∧ (textL l).length ≤ 2432 := by
  unfold printE at h
  by_cases h1 : widthI t = 0
  · rw [if_pos h1] at h
    simp at h
  · rw [if_neg h1] at h
    by_cases h2 : 32 < l.length
    · rw [if_pos h2] at h
      simp at h
    · rw [if_neg h2] at h
      cases h3 : goodR (widthI t) l
      · rw [h3] at h
        simp at h
      · rw [h3, if_neg (by simp)] at h
        by_cases h4 : 2432 < (textL l).length
        · rw [if_pos h4] at h
          simp at h
        · rw [if_neg h4] at h
          simp at h
          exact ⟨h1, by omega, rfl, h.symm, by omega⟩
/-- Two rows of rows that are written have the same text just if they are the same. -/
theorem print_inj {t : List UInt8} {a b : List TRow} {c d : List UInt8} (h1 : printE t a = (0, c)) (h2 : printE t b = (0, d)) : (c = d) ↔ (a = b) := by
  obtain ⟨_, _, g1, rfl, _⟩ := print_ok h1
  obtain ⟨_, _, g2, rfl, _⟩ := print_ok h2
  constructor
  · intro h
    rw [← read_text a (goodR_mem g1), ← read_text b (goodR_mem g2), h]
  · rintro rfl
    rfl
/-- What was printed is parsed as it was. -/
theorem parse_print {t : List UInt8} {l : List TRow} {c : List UInt8} (h : printE t l = (0, c)) : parseE t c = (0, l) := by
  obtain ⟨h1, h2, h3, rfl, h5⟩ := print_ok h
  unfold parseE
  rw [if_neg h1, if_neg (by omega), read_text l (goodR_mem h3), h, if_pos rfl]
theorem printE_code (t : List UInt8) (l : List TRow) : (printE t l).1 = 0 ∨ (printE t l).1 = 5 ∨ (printE t l).1 = 50 ∨ (printE t l).1 = 51 := by
  unfold printE
  split; · simp
  split; · simp
  split; · simp
  split <;> simp
end Go.Proofs.YtdaofgmdledcbaaDoor
