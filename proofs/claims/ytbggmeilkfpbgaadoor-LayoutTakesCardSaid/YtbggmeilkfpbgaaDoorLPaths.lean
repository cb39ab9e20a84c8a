/-
  LayoutPaths, walked: paths and names are told from other texts as the document says; and a path is its names, a stroke ahead of each.
  Conditions: none.
-/
import Derived.Test.YtbggmeilkfpbgaaDoorLShown
import Derived.Laws.Concat
namespace Go.Proofs.YtbggmeilkfpbgaaDoor
open Go.RowKit Go.Maps

/-- Names, a stroke ahead of each. -/
def joinL (ps : List (List UInt8)) : List UInt8 := ps.flatMap fun p => 47 :: p
theorem joinL_snoc (ps : List (List UInt8)) (k : Nat) (h : k < ps.length) : joinL (ps.take (k + 1)) = joinL (ps.take k) ++ 47 :: ps[k] := by
  unfold joinL
  rw [List.take_succ_eq_append_getElem h, List.flatMap_append]
  simp
theorem joinL_cut : ∀ l : List UInt8, joinL (cutL l) = 47 :: l
  | [] => rfl
  | c :: l => by
    have ih := joinL_cut l
    rw [cutL]
    split
    · rename_i h
      subst h
      rw [show joinL ([] :: cutL l) = 47 :: joinL (cutL l) from rfl, ih]
    · split
      · rename_i h
        rw [h] at ih
        simp [joinL] at ih
      · rename_i p ps h
        rw [h] at ih
        simp [joinL] at ih ⊢
        exact ih
theorem pathO_join {s : List UInt8} {ps : List (List UInt8)} (h : pathO s = some ps) : (s ≠ [47] → joinL ps = s) ∧ (s = [47] → ps = []) := by
  unfold pathO at h
  split at h
  · rename_i e
    injection h with h
    exact ⟨fun hn => absurd e hn, fun _ => h.symm⟩
  · rename_i e
    split at h
    · rename_i g
      injection h with h
      refine ⟨fun _ => ?_, fun hn => absurd hn e⟩
      rw [← h, joinL_cut]
      match s, g with
      | c :: l, g => simp at g; simp [g.2.1]
    · cases h
theorem pathO_small {s : List UInt8} {ps : List (List UInt8)} (h : pathO s = some ps) : s.length ≤ 120 ∧ ps.length ≤ 8 ∧ ∀ x ∈ ps, nameB x = true := by
  unfold pathO at h
  split at h
  · rename_i e
    injection h with h
    subst e
    subst h
    simp
  · split at h
    · rename_i g
      injection h with h
      rw [h] at g
      exact ⟨g.1, g.2.2.1, List.all_eq_true.1 g.2.2.2⟩
    · cases h
theorem cat_str (a b c : List UInt8) : strL a ++ strL b ++ strL c = strL (a ++ b ++ c) := by
  apply ByteArray.ext
  simp [strL]

theorem StrsIs.val {w : World} {v : Value} {l : List (List UInt8)} (h : StrsIs w v l) : ∃ ao cap, v = .slice ao l.length cap ∧ (0 < l.length → ∃ b o, ao = some ⟨b, o, none⟩ ∧ b < w.heap.size ∧ w.rangeAt b o (sv l)) := by
  rcases h with ⟨b, o, cap, rfl, hb, hr⟩ | ⟨rfl, rfl⟩
  · exact ⟨_, _, rfl, fun _ => ⟨b, o, rfl, hb, hr⟩⟩
  · exact ⟨none, 0, rfl, fun h => by simp at h⟩

end Go.Proofs.YtbggmeilkfpbgaaDoor
