/-
  Layer 8: edges of a slice that is read, appended to edges of the call's own; an empty slice that is made.
  Conditions: those that each theorem states.
-/
import Derived.Test.YtpdngekolhcndaaGShownW
namespace Go.Proofs.Ytpdngekolhcndaa
open Go.RowKit Go.Maps

theorem OwnE.appS {base : Nat} {w : World} {v s : Value} {l B : List Edg} (h : OwnE base w v l) (hb : base ≤ w.heap.size) (hs : EsIs w s B) (hl : (l.length + B.length) * 24 ≤ 140737488355328) :
    ∃ v' w', (Builtin.append_ #[22, 22] 22 #[v, s]).run Try.prog w = .ok v' w' ∧ OwnE base w' v' (l ++ B) ∧ Kept v.ownBlock.toList w w' ∧ (v'.ownBlock = v.ownBlock ∨ v'.ownBlock = some w.heap.size) := by
  obtain ⟨⟨ao, cap, rfl, hcap, hc63, hnil, hat⟩, _⟩ := hs
  have go : ∀ ad, (∀ j u, (ecv B)[j]? = some u → w.cell? (Addr.add ad j) = some u) → ao = some ad → ∃ v' w', (Builtin.append_ #[22, 22] 22 #[v, .slice ao B.length cap]).run Try.prog w = .ok v' w' ∧ OwnE base w' v' (l ++ B) ∧ Kept v.ownBlock.toList w w' ∧ (v'.ownBlock = v.ownBlock ∨ v'.ownBlock = some w.heap.size) := by
    rintro ad hsrc rfl
    obtain ⟨v', w', hrun, ho, hk, hor⟩ := own_app elemEdg 22 w base v l.length (ecv l) h.1 ad B.length cap (ecv B) (by rw [ecv_length]; omega) hsrc (ecv_one _) (by unfold maxLen; omega) hl hb
    refine ⟨v', w', hrun, ⟨?_, by simpa using hl⟩, hk, hor⟩
    rw [List.length_append, ecv_append]
    exact ho
  rcases hat with h0 | ⟨b, o, rfl, hbl, hr⟩
  · have hB : B = [] := List.eq_nil_of_length_eq_zero h0
    cases ao with
    | some ad => exact go ad (fun j u hu => by rw [hB] at hu; simp [ecv] at hu) rfl
    | none =>
      obtain ⟨i, hi, _, hsz, _⟩ := info_parts elemEdg.info
      have hrun := run_append_owned_none (P := Try.prog) (w := w) base 22 22 32 i 3 Try.underlying22 hi v l.length (ecv l) h.1
      rw [hnil rfl, hB, List.append_nil]
      exact ⟨_, _, hrun, h, Kept.refl _ _, .inl rfl⟩
  · exact go ⟨b, o, none⟩ (fun j u hu => by rw [Addr.add_mid]; exact hr j u hu) rfl
theorem OwnE.empty (w : World) (base : Nat) (hb : base ≤ w.heap.size) : OwnE base (w.alloc (.cells #[] 32)) (.slice (some ⟨w.heap.size, 0, none⟩) 0 0) [] :=
  ⟨⟨rfl, .inr ⟨w.heap.size, 0, #[], rfl, hb, heap_alloc_last _ _, Nat.le_refl _, by unfold maxLen; omega, rfl, rfl⟩⟩, by simp⟩
end Go.Proofs.Ytpdngekolhcndaa
