/-
  Layer 4: what Audit's rows come to.
  Conditions: those that each theorem states.
-/
import Derived.Test.YtiedoocgbajjjaaGreatDoorFAud
import Derived.Test.YtiedoocgbajjjaaGreatDoorLProof
namespace Go.Proofs.YtiedoocgbajjjaaGreatDoor
open Go.RowKit Go.Maps
set_option maxRecDepth 100000

theorem used_loose (D : Nat) (F : List Bool) : ∀ j, (usedL D F j).length + (looseL D F j).length = j - D
  | 0 => by simp [usedL, looseL]
  | j + 1 => by
    have ih := used_loose D F j
    rw [used_step, loose_step, List.length_append, List.length_append]
    by_cases h : D ≤ j
    · cases hb : F.getD j false
      · rw [if_neg (by simp), if_pos ⟨h, rfl⟩]
        simp
        omega
      · rw [if_pos ⟨h, rfl⟩, if_neg (by simp)]
        simp
        omega
    · rw [if_neg (fun hh => h hh.1), if_neg (fun hh => h hh.1)]
      simp
      omega
theorem loose_free (D : Nat) (F : List Bool) (hD : ∀ i < D, F.getD i false = true) : ∀ j, j ≤ F.length → (looseL D F j) = freeL 0 (F.take j)
  | 0, _ => by simp [looseL, freeL]
  | j + 1, hj => by
    have ih := loose_free D F hD j (by omega)
    rw [loose_step, freeL_take (by omega), ih]
    congr 1
    have hg : F.getD j false = F[j]'(by omega) := by rw [List.getD_eq_getElem?_getD, List.getElem?_eq_getElem (by omega : j < F.length)]; rfl
    by_cases h : D ≤ j
    · cases hb : F[j]'(by omega)
      · rw [hg, hb, if_pos ⟨h, rfl⟩]; rfl
      · rw [hg, hb, if_neg (by simp)]; rfl
    · have := hD j (by omega)
      rw [hg] at this
      rw [this, if_neg (fun hh => h hh.1)]
      rfl
/-- Audit, in words of what a walk keeps. -/
def AudAt (w : World) (N q : Nat) (T : PTr) (e : Ending) (w' : World) : Prop :=
  ∃ v2 v3 v4 F, e = .returned (.tuple #[v2, v3, v4]) ∧ Hid (Aud3 w.heap.size w w' v2 v3 v4 (List.range (233 + q)) (usedL (233 + q) F N) (looseL (233 + q) F N) ∧ ((looseL (233 + q) F N).length : Int) = (N : Int) - ((233 + q : Nat) : Int) - T.costP ∧ 233 + q ≤ N)
theorem fsat_audit (f d j m N q g Z : Nat) (B : List UInt8) (ex : List Nat) (T : PTr) (w : World) (h : FsAt w f d j m N q g Z B ex T) :
    Calls Tryz.prog 23 #[.pointer (some ⟨f, 0, none⟩)] w (AudAt w N q T) := by
  obtain ⟨base, S, t, h1, rfl, h3, h4, h5, h6⟩ := h
  refine (fAudit_any f d j N q g base S t w h1).mono ?_
  rintro e w' ⟨v2, v3, v4, rfl, H⟩
  refine ⟨v2, v3, v4, _, rfl, H.out, ?_, ?_⟩
  · have hf := h1.st.set.pre.free
    have hc := costL_sum t.all (fun s hs => fine_all h1.st.fine s hs)
    have hs := h1.st.set.cst
    have hlen : (setAll (setAll (List.replicate N false) (List.range (233 + q))) (t.all.flatMap ATr.blks)).length = N := by rw [setAll_length, setAll_length]; simp
    have hD : 233 + q ≤ N := by have := h1.ok.lo; have := h1.ok.q; omega
    rw [loose_free (233 + q) _ (fun i hi => ?_) N (by omega), List.take_of_length_le (by omega), ← costP_core h5, ← cost_er, hc]
    · unfold blocksF at hf
      rw [← nds_blks] at hf
      unfold ATr.nds at hs hf
      omega
    · rw [List.getD_eq_getElem?_getD, setAll_at, setAll_at, List.getElem?_replicate, if_pos (by omega)]
      simp [hi]
  · have := h1.ok.lo; have := h1.ok.q; omega
theorem fsat_len (f d j m N q g Z : Nat) (B : List UInt8) (ex : List Nat) (T : PTr) (w : World) (h : FsAt w f d j m N q g Z B ex T) :
    Calls Tryz.prog 25 #[.pointer (some ⟨d, 0, none⟩)] w fun e w' => e = .returned (.int .i64 (N : Int)) ∧ w = w' := by
  obtain ⟨base, S, t, h1, rfl, h3, h4, h5, h6⟩ := h
  rw [← h1.size]
  exact len_any d S w h1.jl.live.disk
end Go.Proofs.YtiedoocgbajjjaaGreatDoor
