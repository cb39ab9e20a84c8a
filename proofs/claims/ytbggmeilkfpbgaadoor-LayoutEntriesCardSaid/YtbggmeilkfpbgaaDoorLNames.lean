/-
  LayoutNames, walked: a path's names are names, and a path of names is a path, as long as it is neither too long nor too deep.
  Conditions: those of the theorem.
-/
import Derived.Test.YtbggmeilkfpbgaaDoorLPaths
namespace Go.Proofs.YtbggmeilkfpbgaaDoor
open Go.RowKit Go.Maps

/-- An argument of type []string. -/
def StrsA (w : World) (ao : Option Addr) (len : Nat) (ps : List (List UInt8)) : Prop :=
  ps.length = len ∧ len ≤ 9223372036854775807 ∧ (len = 0 ∨ ∃ b o, ao = some ⟨b, o, none⟩ ∧ b < w.heap.size ∧ w.rangeAt b o (sv ps)) ∧ ∀ p ∈ ps, p.length ≤ 140737488355328

theorem name_free {p : List UInt8} (h : nameB p = true) : ∀ c ∈ p, c ≠ 47 := by
  intro c hc e
  subst e
  simp only [nameB, Bool.and_eq_true, List.all_eq_true] at h
  have := h.2.1 47 hc
  revert this
  decide
theorem cut_join : ∀ (p : List UInt8) (ps : List (List UInt8)), nameB p = true → (∀ x ∈ ps, nameB x = true) → cutL (p ++ joinL ps) = p :: ps
  | p, [], hp, _ => by rw [show joinL [] = [] from rfl, List.append_nil]; exact cutL_miss p (name_free hp)
  | p, q :: ps, hp, h => by
    rw [show joinL (q :: ps) = 47 :: (q ++ joinL ps) by simp [joinL], cutL_hit _ _ (name_free hp), cut_join q ps (h q (by simp)) fun x hx => h x (by simp [hx])]
theorem path_of_names {ps : List (List UInt8)} (h0 : 0 < ps.length) (h8 : ps.length ≤ 8) (hn : ps.all nameB = true) (hl : (joinL ps).length ≤ 120) : pathO (joinL ps) = some ps := by
  match ps, h0 with
  | p :: rest, _ =>
    rw [List.all_eq_true] at hn
    have hp := hn p (by simp)
    have hj : joinL (p :: rest) = 47 :: (p ++ joinL rest) := by simp [joinL]
    have hc : cutL (p ++ joinL rest) = p :: rest := cut_join p rest hp fun x hx => hn x (by simp [hx])
    have hp1 : 1 ≤ p.length := by
      simp only [nameB, Bool.and_eq_true, decide_eq_true_eq] at hp
      exact hp.1.1
    have := pathO_yes (s := joinL (p :: rest)) (fun e => by
      rw [hj] at e
      have := congrArg List.length e
      simp at this
      have h := this.1
      rw [h] at hp1
      simp at hp1) ⟨hl, by rw [hj]; rfl, by rw [hj]; show (cutL (p ++ joinL rest)).length ≤ 8; rw [hc]; exact h8, by rw [hj]; show (cutL (p ++ joinL rest)).all nameB = true; rw [hc, List.all_eq_true]; exact hn⟩
    rw [this, hj]
    show some (cutL (p ++ joinL rest)) = _
    rw [hc]

def okB (len : Nat) (ps : List (List UInt8)) : Bool := decide (0 < len ∧ len ≤ 8) && ps.all nameB

end Go.Proofs.YtbggmeilkfpbgaaDoor
