/-
  Layer 5: rows by rising keys (no program text): what Set makes of them.
  Conditions: those that each theorem states.
-/
import Derived.Test.YtdaofgmdledcbaaDoorTSetW
import Derived.Test.YtdaofgmdledcbaaDoorTText
namespace Go.Proofs.YtdaofgmdledcbaaDoor
open Go.RowKit Go.Maps

theorem less_cons (a b : UInt8) (x y : List UInt8) : lessB (a :: x) (b :: y) = true ↔ a < b ∨ (a = b ∧ lessB x y = true) := by
  unfold lessB
  simp only [Op.bytesLess]
  by_cases h : a < b
  · simp [h]
  · by_cases h2 : a = b
    · subst h2
      simp [UInt8.lt_irrefl]
    · simp [h, h2]
theorem less_trans : ∀ (a b c : List UInt8), lessB a b = true → lessB b c = true → lessB a c = true
  | [], [], _, h, _ => by simp [lessB, Op.bytesLess] at h
  | [], b :: y, [], _, h => by simp [lessB, Op.bytesLess] at h
  | [], b :: y, c :: z, _, _ => by simp [lessB, Op.bytesLess]
  | a :: x, [], _, h, _ => by simp [lessB, Op.bytesLess] at h
  | a :: x, b :: y, [], _, h => by simp [lessB, Op.bytesLess] at h
  | a :: x, b :: y, c :: z, h1, h2 => by
    rw [less_cons] at *
    rcases h1 with h1 | ⟨rfl, h1⟩
    · rcases h2 with h2 | ⟨rfl, h2⟩
      · exact .inl (UInt8.lt_trans h1 h2)
      · exact .inl h1
    · rcases h2 with h2 | ⟨rfl, h2⟩
      · exact .inl h2
      · exact .inr ⟨rfl, less_trans x y z h1 h2⟩
theorem less_irrefl (a : List UInt8) : lessB a a = false := by
  cases h : lessB a a
  · rfl
  · have := less_tri a a
    rw [h] at this
    simp at this
theorem less_or {a b : List UInt8} (hne : a ≠ b) (h : lessB a b = false) : lessB b a = true := by
  have := less_tri a b
  rw [h] at this
  simp at this
  cases hb : lessB b a
  · exact absurd (this hb).symm hne
  · rfl

def Sorted (l : List TRow) : Prop := l.Pairwise fun p q => lessB p.1 q.1 = true
theorem sorted_good {n : Int} : ∀ (l : List TRow), goodR n l = true → Sorted l := by
  intro l h
  have hg := of_decide_eq_true h
  unfold Sorted
  rw [List.pairwise_iff_getElem]
  intro i j hi hj hij
  induction j with
  | zero => omega
  | succ j ih =>
    have h1 := (hg (j + 1) hj).2 (by omega)
    simp only [Nat.add_sub_cancel] at h1
    by_cases e : i = j
    · subst e; exact h1
    · exact less_trans _ _ _ (ih (by omega) (by omega)) h1
theorem insR_nil (r : TRow) : insR [] r = [r] := rfl
theorem insR_cons (x : TRow) (o : List TRow) (r : TRow) : insR (x :: o) r = if lessB r.1 x.1 = true then r :: x :: o else x :: insR o r := by
  unfold insR placeN
  rw [List.findIdx_cons]
  cases h : lessB r.1 x.1
  · simp
  · simp
theorem mem_insR {o : List TRow} {r y : TRow} : y ∈ insR o r ↔ y = r ∨ y ∈ o := by
  induction o with
  | nil => rw [insR_nil]; simp
  | cons x o ih =>
    rw [insR_cons]
    split
    · simp
    · simp only [List.mem_cons, ih]
      constructor
      · rintro (h | h | h) <;> simp [h]
      · rintro (h | h | h) <;> simp [h]
theorem sorted_ins {o : List TRow} {r : TRow} (h : Sorted o) (hne : ∀ y ∈ o, y.1 ≠ r.1) : Sorted (insR o r) := by
  induction o with
  | nil => rw [insR_nil]; unfold Sorted; simp
  | cons x o ih =>
    unfold Sorted at h
    rw [List.pairwise_cons] at h
    rw [insR_cons]
    split
    · rename_i hl
      unfold Sorted
      rw [List.pairwise_cons, List.pairwise_cons]
      refine ⟨fun y hy => ?_, h⟩
      rcases List.mem_cons.1 hy with rfl | hy
      · exact hl
      · exact less_trans _ _ _ hl (h.1 y hy)
    · rename_i hl
      have hl' : lessB r.1 x.1 = false := by simpa using hl
      unfold Sorted
      rw [List.pairwise_cons]
      refine ⟨fun y hy => ?_, ih h.2 fun y hy => hne y (by simp [hy])⟩
      rcases mem_insR.1 hy with rfl | hy
      · exact less_or (fun e => hne x (by simp) e.symm) hl'
      · exact h.1 y hy
theorem mem_dropR {l : List TRow} {k : List UInt8} {y : TRow} : y ∈ dropR l k ↔ y ∈ l ∧ y.1 ≠ k := by simp [dropR]
theorem mem_setR {l : List TRow} {r y : TRow} : y ∈ setR l r ↔ y = r ∨ (y ∈ l ∧ y.1 ≠ r.1) := by
  unfold setR
  rw [mem_insR, mem_dropR]
theorem sorted_set {l : List TRow} {r : TRow} (h : Sorted l) : Sorted (setR l r) :=
  sorted_ins (h.filter _) fun _ hy => (mem_dropR.1 hy).2
theorem setR_len (l : List TRow) (r : TRow) : (setR l r).length ≤ l.length + 1 := by
  unfold setR
  rw [insR_len]
  have := dropR_len l r.1
  omega
theorem sorted_key {l : List TRow} (h : Sorted l) {x y : TRow} (hx : x ∈ l) (hy : y ∈ l) (e : x.1 = y.1) : x = y := by
  obtain ⟨i, hi, rfl⟩ := List.getElem_of_mem hx
  obtain ⟨j, hj, rfl⟩ := List.getElem_of_mem hy
  unfold Sorted at h
  rw [List.pairwise_iff_getElem] at h
  rcases Nat.lt_trichotomy i j with hij | rfl | hij
  · have := h i j hi hj hij
    rw [e, less_irrefl] at this
    cases this
  · rfl
  · have := h j i hj hi hij
    rw [e, less_irrefl] at this
    cases this
theorem sorted_ext : ∀ {a b : List TRow}, Sorted a → Sorted b → (∀ x, x ∈ a ↔ x ∈ b) → a = b
  | [], [], _, _, _ => rfl
  | [], y :: b, _, _, h => by have := (h y).2 (by simp); simp at this
  | x :: a, [], _, _, h => by have := (h x).1 (by simp); simp at this
  | x :: a, y :: b, ha, hb, h => by
    unfold Sorted at ha hb
    rw [List.pairwise_cons] at ha hb
    have hxy : x = y := by
      rcases List.mem_cons.1 ((h x).1 (by simp)) with e | e
      · exact e
      · rcases List.mem_cons.1 ((h y).2 (by simp)) with e' | e'
        · exact e'.symm
        · have h1 := hb.1 x e
          have h2 := ha.1 y e'
          have := less_trans _ _ _ h1 h2
          rw [less_irrefl] at this
          cases this
    subst hxy
    have hne : ∀ z ∈ a, z ≠ x := fun z hz e => by
      have := ha.1 z hz
      rw [e, less_irrefl] at this
      cases this
    have hne' : ∀ z ∈ b, z ≠ x := fun z hz e => by
      have := hb.1 z hz
      rw [e, less_irrefl] at this
      cases this
    rw [sorted_ext ha.2 hb.2 fun z => ⟨fun hz => by
      rcases List.mem_cons.1 ((h z).1 (by simp [hz])) with e | e
      · exact absurd e (hne z hz)
      · exact e, fun hz => by
      rcases List.mem_cons.1 ((h z).2 (by simp [hz])) with e | e
      · exact absurd e (hne' z hz)
      · exact e⟩]
/-- Rows of l, by rising keys. -/
def PartOf (l L : List TRow) : Prop := Sorted L ∧ ∀ x ∈ L, x ∈ l
theorem PartOf.nil (l : List TRow) : PartOf l [] := ⟨List.Pairwise.nil, fun x hx => by cases hx⟩
theorem PartOf.set {l L : List TRow} (hl : Sorted l) (h : PartOf l L) {r : TRow} (hr : r ∈ l) : PartOf l (setR L r) ∧ r ∈ setR L r ∧ ∀ x ∈ L, x ∈ setR L r := by
  refine ⟨⟨sorted_set h.1, fun x hx => ?_⟩, mem_setR.2 (.inl rfl), fun x hx => mem_setR.2 ?_⟩
  · rcases mem_setR.1 hx with rfl | ⟨hx, _⟩
    · exact hr
    · exact h.2 x hx
  · by_cases e : x.1 = r.1
    · exact .inl (sorted_key hl (h.2 x hx) hr e)
    · exact .inr ⟨hx, e⟩
theorem PartOf.all {l L : List TRow} (hl : Sorted l) (h : PartOf l L) (ha : ∀ x ∈ l, x ∈ L) : L = l := sorted_ext h.1 hl fun x => ⟨h.2 x, ha x⟩
end Go.Proofs.YtdaofgmdledcbaaDoor
