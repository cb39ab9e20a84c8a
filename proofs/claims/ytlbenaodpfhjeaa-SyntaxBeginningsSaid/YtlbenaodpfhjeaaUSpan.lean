/-
  Layer 11: runes and bytes, a rune's class, a row of classes that is searched, how far a text is of some classes, and a name's part.
  Conditions: those that each theorem states.
-/
import Derived.Test.YtlbenaodpfhjeaaUCls
import Derived.Test.YtlbenaodpfhjeaaUShelf
import Derived.Lib.OthersKept
import Derived.Lib.TrimU
import Derived.Lib.FieldsU
import Derived.Laws.RangeAny
namespace Go.Proofs.Ytlbenaodpfhjeaa
open Go.RowKit Go.Maps

abbrev bl (S : ByteArray) : List UInt8 := S.data.toList
theorem bl_len (S : ByteArray) : (bl S).length = S.size := size_toList S
theorem bl_get (S : ByteArray) (i : Nat) (h : i < S.size) : (bl S)[i]'(by rw [bl_len]; exact h) = S[i] := rfl
theorem bl_get? (S : ByteArray) (i : Nat) (h : i < S.size) : (bl S)[i]? = some S[i] := by
  rw [List.getElem?_eq_getElem (by rw [bl_len]; exact h)]
  rfl
theorem bl_ext (S : ByteArray) (a b : Nat) : bl (S.extract a b) = ((bl S).drop a).take (b - a) := by
  have h := Lib.extract_toList S a b
  rw [Lib.toList_data] at h
  exact h
theorem bl_eq {S T : ByteArray} (h : bl S = bl T) : S = T := by
  cases S; cases T
  congr
  exact Array.toList_inj.1 h
theorem str_bl (S : ByteArray) : strL (bl S) = S := rfl
theorem bl_str (l : List UInt8) : bl (strL l) = l := rfl

theorem Kept.iterAt {w wr : World} (h : Kept [] w wr) {k : Nat} (hk : w.heap.size ≤ k) (s : ByteArray) (pos : Nat) : Kept [] w (wr.iterAt k s pos) :=
  ⟨h.os, h.tape, h.output, by rw [Lib.iterAt_size]; exact h.size, fun i hi hn => by rw [Lib.iterAt_other wr k i s pos (by omega)]; exact h.block i hi hn⟩

/-- What a rune is to a word hangs on its first byte alone. -/
theorem dec_cls (S : ByteArray) (pos : Nat) (h : pos < S.size) : clsN (Utf8.decode S pos).1 = clsN (S[pos]'h).toNat := by
  by_cases ha : (S[pos]'h).toNat < 128
  · rw [decode_ascii S pos h ha]
  · have h1 := (decode_high S pos h (by omega)).1
    have : ∀ n, 128 ≤ n → clsN n = 0 := fun n hn => by
      unfold clsN
      repeat' split
      all_goals omega
    rw [this _ h1, this _ (by omega)]
/-- A rune of several bytes has none below 128. -/
theorem dec_wide (S : ByteArray) (pos : Nat) (h : pos < S.size) : (Utf8.decode S pos).2 = 1 ∨ ∀ j, j < (Utf8.decode S pos).2 → ∃ h2 : pos + j < S.size, 128 ≤ (S[pos + j]'h2).toNat := by
  have gb : ∀ k (hk : pos + k < S.size), (S.get! (pos + k)).toNat = (S[pos + k]'hk).toNat := fun k hk => by
    rw [show S.get! (pos + k) = S[pos + k] from get_at S (pos + k) hk]
  by_cases ha : (S[pos]'h).toNat < 128
  · left; rw [decode_ascii S pos h ha]
  · have g0 := gb 0 (by omega)
    simp only [Nat.add_zero] at g0
    unfold Utf8.decode
    simp only [Nat.add_zero]
    have c (k : Nat) : (decide (pos + k < S.size) && (S.get! (pos + k)).toNat / 64 == 2) = true → ∃ h2 : pos + k < S.size, 128 ≤ (S[pos + k]'h2).toNat := by
      intro hh
      simp only [Bool.and_eq_true, decide_eq_true_eq, beq_iff_eq] at hh
      refine ⟨hh.1, ?_⟩
      have := gb k hh.1
      omega
    have z : ∃ h2 : pos + 0 < S.size, 128 ≤ (S[pos + 0]'h2).toNat := ⟨h, by simp only [Nat.add_zero]; omega⟩
    have e2 : ∀ b : Bool, b = true → (b && (decide (pos + 1 < S.size) && (S.get! (pos + 1)).toNat / 64 == 2)) = true → ∀ j, j < 2 → ∃ h2 : pos + j < S.size, 128 ≤ (S[pos + j]'h2).toNat := by
      intro b hb hh j hj
      rw [hb, Bool.true_and] at hh
      match j, hj with
      | 0, _ => exact z
      | 1, _ => exact c 1 hh
    split
    · left; rfl
    split
    · rename_i hh
      split
      · right
        simp only [Bool.and_eq_true] at hh
        intro j hj
        match j, hj with
        | 0, _ => exact z
        | 1, _ => exact c 1 (by simp only [Bool.and_eq_true]; exact hh.2)
      · left; rfl
    split
    · rename_i hh
      split
      · right
        simp only [Bool.and_eq_true] at hh
        intro j hj
        match j, hj with
        | 0, _ => exact z
        | 1, _ => exact c 1 (by simp only [Bool.and_eq_true]; exact hh.1.2)
        | 2, _ => exact c 2 (by simp only [Bool.and_eq_true]; exact hh.2)
      · left; rfl
    split
    · rename_i hh
      split
      · right
        simp only [Bool.and_eq_true] at hh
        intro j hj
        match j, hj with
        | 0, _ => exact z
        | 1, _ => exact c 1 (by simp only [Bool.and_eq_true]; exact hh.1.1.2)
        | 2, _ => exact c 2 (by simp only [Bool.and_eq_true]; exact hh.1.2)
        | 3, _ => exact c 3 (by simp only [Bool.and_eq_true]; exact hh.2)
      · left; rfl
    · left; rfl
/-- A byte below 128, or what stands behind one, begins a rune: no rune goes over it. -/
theorem dec_edge (S : ByteArray) (pos e : Nat) (h : pos < e) (he : e ≤ S.size) (hb : e = S.size ∨ (∃ h1 : e - 1 < S.size, (S[e - 1]'h1).toNat < 128) ∨ (∃ h1 : e < S.size, (S[e]'h1).toNat < 128)) : pos + (Utf8.decode S pos).2 ≤ e := by
  have hp : pos < S.size := by omega
  rcases dec_wide S pos hp with h1 | hw
  · omega
  · apply Nat.le_of_not_lt
    intro hlt
    rcases hb with rfl | ⟨h1, h2⟩ | ⟨h1, h2⟩
    · obtain ⟨h3, _⟩ := hw (S.size - pos) (by omega)
      omega
    · obtain ⟨h3, h4⟩ := hw (e - 1 - pos) (by omega)
      simp only [show pos + (e - 1 - pos) = e - 1 by omega] at h4
      omega
    · obtain ⟨h3, h4⟩ := hw (e - pos) (by omega)
      simp only [show pos + (e - pos) = e by omega] at h4
      omega

/-- A row of classes that is read. -/
def ClsIs (w : World) (v : Value) (C : List Int) : Prop :=
  ∃ b cap, v = .slice (some ⟨b, 0, none⟩) C.length cap ∧ C.length ≤ cap ∧ b < w.heap.size ∧ ∀ k (hk : k < C.length), w.cell? ⟨b, k, none⟩ = some (.int .i64 C[k])
theorem ClsIs.kept {w w' : World} {v : Value} {C : List Int} (h : ClsIs w v C) (hk : Kept [] w w') : ClsIs w' v C := by
  obtain ⟨b, cap, h1, h2, h3, h4⟩ := h
  exact ⟨b, cap, h1, h2, Nat.lt_of_lt_of_le h3 hk.size, fun k hk2 => by rw [hk.cell (p := ⟨b, k, none⟩) h3 (by simp)]; exact h4 k hk2⟩
theorem ClsIs.made (w : World) (C : List Int) (t : TypeId) : ClsIs (w.alloc (.cells (ivA C) t)) (.slice (some ⟨w.heap.size, 0, none⟩) C.length C.length) C :=
  ⟨w.heap.size, C.length, rfl, Nat.le_refl _, by simp, fun k hk => by rw [cell_of_row _ _ _ _ _ _ (heap_alloc_last w _)]; simp [ivA, iv, hk]⟩

/-- A place tells whether the number is there. -/
def IdxOk (C : List Int) (c i : Int) : Prop := decide (0 ≤ i) = C.contains c
/-- Whether a byte is of these classes. -/
def inC (C : List Int) (c : UInt8) : Bool := C.contains (clsN c.toNat : Int)
end Go.Proofs.Ytlbenaodpfhjeaa
