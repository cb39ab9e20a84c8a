/-
  A statement whose order Go leaves open, walked in an order of the prover's, under whatever relation of worlds its operations keep.
  Conditions: those that the kernel reckons of the region's own list ('ordMix'); the relation is reflexive and transitive.
-/
import Derived.Test.YtlbenaodpfhjeaaOrder
namespace Go.Proofs.Ytlbenaodpfhjeaa
open Go.RowKit Go.Maps

section
variable {P : Program} {ops : Array Oper} {Q : Exit → Act → World → Prop} {R : World → World → Prop} {md : Region.Mode}

def wpR (P : Program) (ops : Array Oper) (Q : Exit → Act → World → Prop) (R : World → World → Prop) : List (Bool × Oper) → Act → World → Prop
  | [], a, w => Q .normal a w
  | (true, o) :: r, a, w => ∃ v, YieldsIf P ops (R w) o v a ∧ wpR P ops Q R r (a.put o.dst v) w
  | (false, o) :: r, a, w => (if Region.wanted o (yielded ops a.tmps) then o.wp P a w (fun a' w' => R w w' ∧ wpR P ops Q R r a' w') Q else wpR P ops Q R r (a.put o.dst undef) w)

theorem wpR_nil {a : Act} {w : World} (h : Q .normal a w) : wpR P ops Q R [] a w := h
theorem wpR_take {o : Oper} {r : List (Bool × Oper)} {a : Act} {w : World} (v : Value) (hw : Region.wanted o (yielded ops a.tmps) = true)
    (hv : ∀ w', R w w' → (execOp a.eval o).run P w' = .ok (.value v) w') (h : wpR P ops Q R r (a.put o.dst v) w) : wpR P ops Q R ((true, o) :: r) a w :=
  ⟨v, Or.inl ⟨hw, hv⟩, h⟩
theorem wpR_pass {o : Oper} {r : List (Bool × Oper)} {a : Act} {w : World} (hw : Region.wanted o (yielded ops a.tmps) = false)
    (h : wpR P ops Q R r (a.put o.dst undef) w) : wpR P ops Q R ((true, o) :: r) a w :=
  ⟨undef, Or.inr ⟨hw, rfl⟩, h⟩
theorem wpR_force {o : Oper} {r : List (Bool × Oper)} {a : Act} {w : World} (hw : Region.wanted o (yielded ops a.tmps) = true)
    (h : ∀ K : Act → World → Prop, (∀ a' w', R w w' → wpR P ops Q R r a' w' → K a' w') → o.wp P a w K Q) : wpR P ops Q R ((false, o) :: r) a w := by
  unfold wpR
  rw [if_pos hw]
  exact h _ fun a' w' h1 h2 => ⟨h1, h2⟩

theorem wpAnyH_of_ordR (hrf : ∀ w, R w w) (htr : ∀ a b c, R a b → R b c → R a c) (hs : Region.noSelect ops = true) (hQ : ∀ c a d v w, Q (.panic c) (Act.put a d v) w → Q (.panic c) a w) :
    ∀ (is : List (Bool × Nat)) (listed : Array Bool) (a : Act) (w : World), (∀ p ∈ is, p.2 < ops.size) →
    ordMix md ops is listed = true → wpR P ops Q R (named ops.toList is) a w → wpAnyH P md ops Q (R w) is.length listed a w
  | [], listed, a, w, _, hB, h => by
    have hr : Region.ready md ops listed = [] := by simpa [ordMix] using hB
    exact wpAnyH_done hr h _
  | (true, k) :: r, listed, a, w, hl, hB, h => by
    have hk : k < ops.size := hl (true, k) (by simp)
    have h0 : ops[k]? = some (ops.toList.getD k default) := by simp [hk]
    simp only [ordMix, Bool.and_eq_true] at hB
    obtain ⟨⟨hr, hf⟩, hB'⟩ := hB
    simp only [named] at h
    obtain ⟨v, hy, hK⟩ := h
    exact wpAnyH_take h0 hs hf hr (fun c a w hh => hQ c a _ _ w hh) hy (hrf _) (wpAnyH_of_ordR hrf htr hs hQ r _ _ w (fun p hp => hl p (by simp [hp])) hB' hK)
  | (false, k) :: r, listed, a, w, hl, hB, h => by
    have hk : k < ops.size := hl (false, k) (by simp)
    have h0 : ops[k]? = some (ops.toList.getD k default) := by simp [hk]
    have hl' : ∀ p ∈ r, p.2 < ops.size := fun p hp => hl p (by simp [hp])
    simp only [ordMix, Bool.and_eq_true, decide_eq_true_eq] at hB
    obtain ⟨hr, hB'⟩ := hB
    refine wpAnyH_all hr (by simp) fun i hi => ?_
    obtain rfl : i = k := by simpa using hi
    simp only [named] at h
    unfold wpR at h
    unfold wpOp
    simp only [h0]
    by_cases hw : Region.wanted (ops.toList.getD i default) (yielded ops a.tmps) = true
    · rw [if_pos hw] at h ⊢
      refine .inl (Oper.wp_mono (fun a' w' hh => ⟨hh.1, ?_⟩) h)
      exact wpAnyH_mono (fun w'' h2 => htr _ _ _ hh.1 h2) _ _ _ _ (wpAnyH_of_ordR hrf htr hs hQ r _ a' w' hl' hB' hh.2)
    · rw [if_neg hw] at h ⊢
      exact ⟨hrf _, wpAnyH_of_ordR hrf htr hs hQ r _ _ w hl' hB' h⟩

/-- THE BEGINNING. is: the order, and which operation only reads. -/
theorem wp_region_ordR {id : Nat} {a : Act} {w : World} {l : List Oper} (is : List (Bool × Nat)) (hrf : ∀ w, R w w) (htr : ∀ a b c, R a b → R b c → R a c) (hm : P.follows .mixedOrders = true) (hQ : ∀ c a d v w, Q (.panic c) (Act.put a d v) w → Q (.panic c) a w)
    (hn : Region.noSelect l.toArray = true) (hk : is.length = l.length) (hlt : (is.all fun p => decide (p.2 < l.length)) = true) (hB : ordMix .any l.toArray is (Array.replicate l.toArray.size false) = true)
    (h : wpR P l.toArray Q R (named l is) a w.drew) : (Code.region id l.toArray true).wp P Q a w := by
  have := wpAnyH_of_ordR hrf htr (md := .any) hn hQ is _ a w.drew (fun p hp => by
    have := List.all_eq_true.1 hlt p hp
    simpa using this) hB h
  rw [hk] at this
  refine wp_region_held (S := R w.drew) hm ?_
  exact this
end

/-- What PP says of a world stays true. -/
def Imp (PP : World → Prop) (a b : World) : Prop := PP a → PP b
theorem Imp.refl (PP : World → Prop) (a : World) : Imp PP a a := fun h => h
theorem Imp.trans {PP : World → Prop} {a b c : World} (h : Imp PP a b) (k : Imp PP b c) : Imp PP a c := fun x => k (h x)
end Go.Proofs.Ytlbenaodpfhjeaa
