/-
  Layer 11: the program's signs, and the piece that it cuts.
  Conditions: those that each theorem states.
-/
import Derived.Test.YtlbenaodpfhjeaaUCut
namespace Go.Proofs.Ytlbenaodpfhjeaa
open Go.RowKit Go.Maps

def sgs : List (List UInt8) := [[61, 62], [61, 61], [33, 61], [45, 62], [126, 62], [123], [125], [40], [41], [91], [93], [44], [58], [61], [33]]
theorem sgs_len (k : Nat) (h : k < sgs.length) : (k < 5 → sgs[k] ∈ sgn2 ∧ sgs[k].length = 2) ∧ (5 ≤ k → sgs[k] ∈ sgn1 ∧ sgs[k].length = 1) := by
  have hh : ∀ k : Fin 15, (k.1 < 5 → sgs[k.1]'k.2 ∈ sgn2 ∧ (sgs[k.1]'k.2).length = 2) ∧ (5 ≤ k.1 → sgs[k.1]'k.2 ∈ sgn1 ∧ (sgs[k.1]'k.2).length = 1) := by decide
  exact hh ⟨k, h⟩
theorem sgs_two {t : List UInt8} (h : t ∈ sgn2) : ∃ k, ∃ hk : k < sgs.length, k < 5 ∧ sgs[k] = t := by
  simp [sgn2] at h
  rcases h with rfl | rfl | rfl | rfl | rfl
  · exact ⟨0, by decide, by decide, rfl⟩
  · exact ⟨1, by decide, by decide, rfl⟩
  · exact ⟨2, by decide, by decide, rfl⟩
  · exact ⟨3, by decide, by decide, rfl⟩
  · exact ⟨4, by decide, by decide, rfl⟩
theorem sgs_one {t : List UInt8} (h : t ∈ sgn1) : ∃ k, ∃ hk : k < sgs.length, 5 ≤ k ∧ sgs[k] = t := by
  simp [sgn1] at h
  rcases h with rfl | rfl | rfl | rfl | rfl | rfl | rfl | rfl | rfl | rfl
  · exact ⟨5, by decide, by decide, rfl⟩
  · exact ⟨6, by decide, by decide, rfl⟩
  · exact ⟨7, by decide, by decide, rfl⟩
  · exact ⟨8, by decide, by decide, rfl⟩
  · exact ⟨9, by decide, by decide, rfl⟩
  · exact ⟨10, by decide, by decide, rfl⟩
  · exact ⟨11, by decide, by decide, rfl⟩
  · exact ⟨12, by decide, by decide, rfl⟩
  · exact ⟨13, by decide, by decide, rfl⟩
  · exact ⟨14, by decide, by decide, rfl⟩
/-- None of the first k signs begins the text. -/
def NoSgn (l : List UInt8) (k : Nat) : Prop := ∀ j (h : j < sgs.length), j < k → l.take sgs[j].length ≠ sgs[j]
theorem sign_hit {l : List UInt8} {k : Nat} (hk : k < sgs.length) (hn : NoSgn l k) (h : l.take sgs[k].length = sgs[k]) : signN l = sgs[k].length := by
  have hs := sgs_len k hk
  unfold signN
  by_cases h5 : k < 5
  · have := hs.1 h5
    rw [this.2] at h
    rw [h, if_pos this.1, this.2]
  · have := hs.2 (by omega)
    have h2 : l.take 2 ∉ sgn2 := by
      intro hm
      obtain ⟨j, hj, hj5, e⟩ := sgs_two hm
      refine hn j hj (by omega) ?_
      rw [((sgs_len j hj).1 hj5).2, e]
    rw [this.2] at h
    rw [if_neg h2, h, if_pos this.1, this.2]
theorem sign_none {l : List UInt8} (hn : NoSgn l 15) : signN l = 0 := by
  have h2 : l.take 2 ∉ sgn2 := by
    intro hm
    obtain ⟨j, hj, hj5, e⟩ := sgs_two hm
    refine hn j hj (by omega) ?_
    rw [((sgs_len j hj).1 hj5).2, e]
  have h1 : l.take 1 ∉ sgn1 := by
    intro hm
    obtain ⟨j, hj, hj5, e⟩ := sgs_one hm
    refine hn j hj hj ?_
    rw [((sgs_len j hj).2 hj5).2, e]
  unfold signN
  rw [if_neg h2, if_neg h1]

end Go.Proofs.Ytlbenaodpfhjeaa
