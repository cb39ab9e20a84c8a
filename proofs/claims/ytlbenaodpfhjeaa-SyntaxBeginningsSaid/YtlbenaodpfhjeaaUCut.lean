/-
  Layer 11: what the program cuts off a text: comment, name, number, variable, quoted, sign.
  Conditions: those that each theorem states.
-/
import Derived.Test.YtlbenaodpfhjeaaUSpan
namespace Go.Proofs.Ytlbenaodpfhjeaa
open Go.RowKit Go.Maps

theorem inC_tl : inC [3, 5, 6] = tlB := by
  funext c
  unfold inC tlB
  have h6 : decide (c.toNat = 95) = decide (clsN c.toNat = 6) := by
    have := cls_eq c 6 95 (by simp)
    rw [← UInt8.toNat_inj] at this
    exact decide_eq_decide.2 this
  rw [cls_sm, cls_dg, h6]
  generalize clsN c.toNat = n
  rw [Bool.eq_iff_iff]
  simp
  omega
theorem inC_dg : inC [5] = dgB := by
  funext c
  unfold inC
  rw [cls_dg]
  generalize clsN c.toNat = n
  rw [Bool.eq_iff_iff]
  simp
  omega
theorem bl_nil {S : ByteArray} (h : S.size = 0) : bl S = [] := by
  apply List.eq_nil_of_length_eq_zero
  rw [bl_len, h]
theorem bl_cons {S : ByteArray} (h : 0 < S.size) : bl S = S[0] :: bl (S.extract 1 S.size) := by
  rw [bl_ext, List.take_of_length_le (by rw [List.length_drop, bl_len]; omega)]
  have := List.drop_eq_getElem_cons (l := bl S) (i := 0) (by rw [bl_len]; exact h)
  rw [List.drop_zero] at this
  exact this
theorem bl_from (S : ByteArray) (k : Nat) : bl (S.extract k S.size) = (bl S).drop k := by
  rw [bl_ext, List.take_of_length_le (by rw [List.length_drop, bl_len]; omega)]
theorem size_from (S : ByteArray) (k : Nat) : (S.extract k S.size).size = S.size - k := by
  rw [← bl_len, bl_from, List.length_drop, bl_len]

theorem idx_span : ∀ (l : List UInt8) (c : UInt8), Lib.indexByte l c = if spanN (notB c) l = l.length then -1 else (spanN (notB c) l : Int)
  | [], c => rfl
  | b :: l, c => by
    unfold Lib.indexByte
    rw [idx_span l c]
    have hle := spanN_le (notB c) l
    by_cases hb : b = c
    · subst hb
      simp [spanN, notB]
    · have h1 : notB c b = true := by simp [notB, hb]
      have h2 : (b == c) = false := by simpa using hb
      simp only [spanN, h1, h2, if_true, Bool.false_eq_true, if_false, List.length_cons]
      by_cases hf : spanN (notB c) l = l.length
      · simp [hf]
      · have : ¬ (spanN (notB c) l : Int) = -1 := by omega
        simp [hf, this]
theorem col_lit : ({ data := #[58, 58] } : ByteArray) = strL [58, 58] := rfl
end Go.Proofs.Ytlbenaodpfhjeaa
