/-
  A statement whose order Go leaves open, walked by a plan: an operation that only reads is taken first; where one alone can come up it comes; where two can, both ways are walked.
  Conditions: those that the kernel reckons of the region's own list ('planMix'); the relation is reflexive and transitive.
-/
import Derived.Test.YtlbenaodpfhjeaaLReg
namespace Go.Proofs.Ytlbenaodpfhjeaa
open Go.RowKit Go.Maps

inductive Plan where
  | fin
  | take (k : Nat) (p : Plan)
  | one (k : Nat) (p : Plan)
  | two (k : Nat) (p : Plan) (j : Nat) (q : Plan)
def Plan.len : Plan → Nat
  | .fin => 0
  | .take _ p => p.len + 1
  | .one _ p => p.len + 1
  | .two _ p _ _ => p.len + 1

section
variable {P : Program} {ops : Array Oper} {Q : Exit → Act → World → Prop} {R : World → World → Prop} {md : Region.Mode}

def planMix (md : Region.Mode) (ops : Array Oper) : Plan → Array Bool → Bool
  | .fin, listed => (Region.ready md ops listed).isEmpty
  | .take k p, listed => decide (k < ops.size) && ((Region.ready md ops listed).contains k && Region.free md ops listed k && planMix md ops p (listed.setIfInBounds k true))
  | .one k p, listed => decide (k < ops.size) && (decide (Region.ready md ops listed = [k]) && planMix md ops p (listed.setIfInBounds k true))
  | .two k p j q, listed => decide (k < ops.size) && (decide (j < ops.size) && (decide (Region.ready md ops listed = [k, j]) && (decide (p.len = q.len) && (planMix md ops p (listed.setIfInBounds k true) && planMix md ops q (listed.setIfInBounds j true)))))

def wpP (P : Program) (ops : Array Oper) (Q : Exit → Act → World → Prop) (R : World → World → Prop) (l : List Oper) : Plan → Act → World → Prop
  | .fin, a, w => Q .normal a w
  | .take k p, a, w => ∃ v, YieldsIf P ops (R w) (l.getD k default) v a ∧ wpP P ops Q R l p (a.put (l.getD k default).dst v) w
  | .one k p, a, w => (if Region.wanted (l.getD k default) (yielded ops a.tmps) then (l.getD k default).wp P a w (fun a' w' => R w w' ∧ wpP P ops Q R l p a' w') Q else wpP P ops Q R l p (a.put (l.getD k default).dst undef) w)
  | .two k p j q, a, w => (if Region.wanted (l.getD k default) (yielded ops a.tmps) then (l.getD k default).wp P a w (fun a' w' => R w w' ∧ wpP P ops Q R l p a' w') Q else wpP P ops Q R l p (a.put (l.getD k default).dst undef) w) ∧
      (if Region.wanted (l.getD j default) (yielded ops a.tmps) then (l.getD j default).wp P a w (fun a' w' => R w w' ∧ wpP P ops Q R l q a' w') Q else wpP P ops Q R l q (a.put (l.getD j default).dst undef) w)

theorem wpP_fin {l : List Oper} {a : Act} {w : World} (h : Q .normal a w) : wpP P ops Q R l .fin a w := h
theorem wpP_take {l : List Oper} {k : Nat} {p : Plan} {a : Act} {w : World} (v : Value) (hw : Region.wanted (l.getD k default) (yielded ops a.tmps) = true)
    (hv : ∀ w', R w w' → (execOp a.eval (l.getD k default)).run P w' = .ok (.value v) w') (h : wpP P ops Q R l p (a.put (l.getD k default).dst v) w) : wpP P ops Q R l (.take k p) a w :=
  ⟨v, Or.inl ⟨hw, hv⟩, h⟩
theorem wpP_pass {l : List Oper} {k : Nat} {p : Plan} {a : Act} {w : World} (hw : Region.wanted (l.getD k default) (yielded ops a.tmps) = false)
    (h : wpP P ops Q R l p (a.put (l.getD k default).dst undef) w) : wpP P ops Q R l (.take k p) a w :=
  ⟨undef, Or.inr ⟨hw, rfl⟩, h⟩
theorem wpP_one {l : List Oper} {k : Nat} {p : Plan} {a : Act} {w : World} (hw : Region.wanted (l.getD k default) (yielded ops a.tmps) = true)
    (h : ∀ K : Act → World → Prop, (∀ a' w', R w w' → wpP P ops Q R l p a' w' → K a' w') → (l.getD k default).wp P a w K Q) : wpP P ops Q R l (.one k p) a w := by
  unfold wpP
  rw [if_pos hw]
  exact h _ fun a' w' h1 h2 => ⟨h1, h2⟩
theorem wpP_skip {l : List Oper} {k : Nat} {p : Plan} {a : Act} {w : World} (hw : Region.wanted (l.getD k default) (yielded ops a.tmps) = false)
    (h : wpP P ops Q R l p (a.put (l.getD k default).dst undef) w) : wpP P ops Q R l (.one k p) a w := by
  unfold wpP
  rw [if_neg (by rw [hw]; exact Bool.false_ne_true)]
  exact h
theorem wpP_two {l : List Oper} {k j : Nat} {p q : Plan} {a : Act} {w : World} (h1 : wpP P ops Q R l (.one k p) a w) (h2 : wpP P ops Q R l (.one j q) a w) : wpP P ops Q R l (.two k p j q) a w := by
  unfold wpP at h1 h2 ⊢
  exact ⟨h1, h2⟩

theorem wpAnyH_of_plan (hrf : ∀ w, R w w) (htr : ∀ a b c, R a b → R b c → R a c) (hs : Region.noSelect ops = true) (hQ : ∀ c a d v w, Q (.panic c) (Act.put a d v) w → Q (.panic c) a w) :
    ∀ (p : Plan) (listed : Array Bool) (a : Act) (w : World), planMix md ops p listed = true → wpP P ops Q R ops.toList p a w → wpAnyH P md ops Q (R w) p.len listed a w
  | .fin, listed, a, w, hB, h => by
    have hr : Region.ready md ops listed = [] := by simpa [planMix] using hB
    exact wpAnyH_done hr h _
  | .take k p, listed, a, w, hB, h => by
    simp only [planMix, Bool.and_eq_true, decide_eq_true_eq] at hB
    obtain ⟨hk, ⟨hr, hf⟩, hB'⟩ := hB
    have h0 : ops[k]? = some (ops.toList.getD k default) := by simp [hk]
    obtain ⟨v, hy, hK⟩ := h
    exact wpAnyH_take h0 hs hf hr (fun c a w hh => hQ c a _ _ w hh) hy (hrf _) (wpAnyH_of_plan hrf htr hs hQ p _ _ w hB' hK)
  | .one k p, listed, a, w, hB, h => by
    simp only [planMix, Bool.and_eq_true, decide_eq_true_eq] at hB
    obtain ⟨hk, hr, hB'⟩ := hB
    have h0 : ops[k]? = some (ops.toList.getD k default) := by simp [hk]
    refine wpAnyH_all hr (by simp) fun i hi => ?_
    obtain rfl : i = k := by simpa using hi
    unfold wpP at h
    unfold wpOp
    simp only [h0]
    by_cases hw : Region.wanted (ops.toList.getD i default) (yielded ops a.tmps) = true
    · rw [if_pos hw] at h ⊢
      refine .inl (Oper.wp_mono (fun a' w' hh => ⟨hh.1, ?_⟩) h)
      exact wpAnyH_mono (fun w'' h2 => htr _ _ _ hh.1 h2) _ _ _ _ (wpAnyH_of_plan hrf htr hs hQ p _ a' w' hB' hh.2)
    · rw [if_neg hw] at h ⊢
      exact ⟨hrf _, wpAnyH_of_plan hrf htr hs hQ p _ _ w hB' h⟩
  | .two k p j q, listed, a, w, hB, h => by
    simp only [planMix, Bool.and_eq_true, decide_eq_true_eq] at hB
    obtain ⟨hk, hj, hr, hl, hB1, hB2⟩ := hB
    have h0 : ops[k]? = some (ops.toList.getD k default) := by simp [hk]
    have h1 : ops[j]? = some (ops.toList.getD j default) := by simp [hj]
    refine wpAnyH_all hr (by simp) fun i hi => ?_
    unfold wpP at h
    have hi' : i = k ∨ i = j := by simpa using hi
    rcases hi' with rfl | rfl
    · have h := h.1
      unfold wpOp
      simp only [h0]
      by_cases hw : Region.wanted (ops.toList.getD i default) (yielded ops a.tmps) = true
      · rw [if_pos hw] at h ⊢
        refine .inl (Oper.wp_mono (fun a' w' hh => ⟨hh.1, ?_⟩) h)
        exact wpAnyH_mono (fun w'' h2 => htr _ _ _ hh.1 h2) _ _ _ _ (wpAnyH_of_plan hrf htr hs hQ p _ a' w' hB1 hh.2)
      · rw [if_neg hw] at h ⊢
        exact ⟨hrf _, wpAnyH_of_plan hrf htr hs hQ p _ _ w hB1 h⟩
    · have h := h.2
      unfold wpOp
      simp only [h1]
      rw [hl]
      by_cases hw : Region.wanted (ops.toList.getD i default) (yielded ops a.tmps) = true
      · rw [if_pos hw] at h ⊢
        refine .inl (Oper.wp_mono (fun a' w' hh => ⟨hh.1, ?_⟩) h)
        exact wpAnyH_mono (fun w'' h2 => htr _ _ _ hh.1 h2) _ _ _ _ (wpAnyH_of_plan hrf htr hs hQ q _ a' w' hB2 hh.2)
      · rw [if_neg hw] at h ⊢
        exact ⟨hrf _, wpAnyH_of_plan hrf htr hs hQ q _ _ w hB2 h⟩

/-- THE BEGINNING. -/
theorem wp_region_plan {id : Nat} {a : Act} {w : World} {l : List Oper} (p : Plan) (hrf : ∀ w, R w w) (htr : ∀ a b c, R a b → R b c → R a c) (hm : P.follows .mixedOrders = true) (hQ : ∀ c a d v w, Q (.panic c) (Act.put a d v) w → Q (.panic c) a w)
    (hn : Region.noSelect l.toArray = true) (hk : p.len = l.length) (hB : planMix .any l.toArray p (Array.replicate l.toArray.size false) = true)
    (h : wpP P l.toArray Q R l p a w.drew) : (Code.region id l.toArray true).wp P Q a w := by
  have := wpAnyH_of_plan hrf htr (md := .any) hn hQ p _ a w.drew hB h
  rw [hk] at this
  refine wp_region_held (S := R w.drew) hm ?_
  exact this
end
end Go.Proofs.Ytlbenaodpfhjeaa
