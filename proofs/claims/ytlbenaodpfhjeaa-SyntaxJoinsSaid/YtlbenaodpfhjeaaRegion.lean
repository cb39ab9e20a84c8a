/-
  A statement whose order Go leaves open, walked in the text's order, where what it calls makes new memory and leaves the old as it is: each operation that only reads is taken first; a call comes up alone.
  Conditions: those that the kernel reckons of the region's own list ('lexMix').
-/
import Derived.Test.YtlbenaodpfhjeaaBase
import Derived.OrdersHeld
namespace Go.Proofs.Ytlbenaodpfhjeaa
open Go.RowKit Go.Maps

section
variable {P : Program} {ops : Array Oper} {Q : Exit → Act → World → Prop} {ex : List Nat} {md : Region.Mode}

/-- The region's operations in the text's order: 'true': it only reads; 'false': it comes up alone, and leaves old memory as it was but for the blocks of ex. -/
def wpGrow (P : Program) (ops : Array Oper) (Q : Exit → Act → World → Prop) (ex : List Nat) : List (Bool × Oper) → Act → World → Prop
  | [], a, w => Q .normal a w
  | (true, o) :: r, a, w => ∃ v, YieldsIf P ops (Kept ex w) o v a ∧ wpGrow P ops Q ex r (a.put o.dst v) w
  | (false, o) :: r, a, w => (if Region.wanted o (yielded ops a.tmps) then o.wp P a w (fun a' w' => Kept ex w w' ∧ wpGrow P ops Q ex r a' w') Q else wpGrow P ops Q ex r (a.put o.dst undef) w)

theorem wpGrow_nil {a : Act} {w : World} (h : Q .normal a w) : wpGrow P ops Q ex [] a w := h

theorem wpGrow_take {o : Oper} {r : List (Bool × Oper)} {a : Act} {w : World} (v : Value) (hw : Region.wanted o (yielded ops a.tmps) = true)
    (hv : ∀ w', Kept ex w w' → (execOp a.eval o).run P w' = .ok (.value v) w') (h : wpGrow P ops Q ex r (a.put o.dst v) w) : wpGrow P ops Q ex ((true, o) :: r) a w :=
  ⟨v, Or.inl ⟨hw, hv⟩, h⟩

theorem wpGrow_pass {o : Oper} {r : List (Bool × Oper)} {a : Act} {w : World} (hw : Region.wanted o (yielded ops a.tmps) = false)
    (h : wpGrow P ops Q ex r (a.put o.dst undef) w) : wpGrow P ops Q ex ((true, o) :: r) a w :=
  ⟨undef, Or.inr ⟨hw, rfl⟩, h⟩

theorem wpGrow_force {o : Oper} {r : List (Bool × Oper)} {a : Act} {w : World} (hw : Region.wanted o (yielded ops a.tmps) = true)
    (h : ∀ K : Act → World → Prop, (∀ a' w', Kept ex w w' → wpGrow P ops Q ex r a' w' → K a' w') → o.wp P a w K Q) : wpGrow P ops Q ex ((false, o) :: r) a w := by
  unfold wpGrow
  rw [if_pos hw]
  exact h _ fun a' w' h1 h2 => ⟨h1, h2⟩

theorem wpGrow_skip {o : Oper} {r : List (Bool × Oper)} {a : Act} {w : World} (hw : Region.wanted o (yielded ops a.tmps) = false)
    (h : wpGrow P ops Q ex r (a.put o.dst undef) w) : wpGrow P ops Q ex ((false, o) :: r) a w := by
  unfold wpGrow
  rw [if_neg (by simp [hw])]
  exact h

def lexMix (md : Region.Mode) (ops : Array Oper) : List Bool → Nat → Array Bool → Bool
  | [], _, listed => (Region.ready md ops listed).isEmpty
  | true :: r, k, listed => (Region.ready md ops listed).contains k && Region.free md ops listed k && lexMix md ops r (k + 1) (listed.setIfInBounds k true)
  | false :: r, k, listed => decide (Region.ready md ops listed = [k]) && lexMix md ops r (k + 1) (listed.setIfInBounds k true)

theorem wpAnyH_mono {S S' : World → Prop} (hS : ∀ w, S w → S' w) : ∀ (fuel : Nat) (listed : Array Bool) (a : Act) (w : World), wpAnyH P md ops Q S fuel listed a w → wpAnyH P md ops Q S' fuel listed a w
  | 0, _, _, _, h => h
  | fuel + 1, _, _, _, h => ⟨h.1, fun i hi => wpOp_mono (fun a' w' h' => ⟨hS _ h'.1, wpAnyH_mono hS fuel _ a' w' h'.2⟩) (h.2 i hi)⟩

theorem wpAnyH_of_grow (hs : Region.noSelect ops = true) (hQ : ∀ c a d v w, Q (.panic c) (Act.put a d v) w → Q (.panic c) a w) :
    ∀ (l : List (Bool × Oper)) (k : Nat) (listed : Array Bool) (a : Act) (w : World), (∀ j, (l[j]?).map (·.2) = if j < l.length then ops[k + j]? else none) →
    lexMix md ops (l.map (·.1)) k listed = true → wpGrow P ops Q ex l a w → wpAnyH P md ops Q (Kept ex w) l.length listed a w
  | [], k, listed, a, w, _, hB, h => by
    have hr : Region.ready md ops listed = [] := by simpa [lexMix] using hB
    exact wpAnyH_done hr h _
  | (true, o) :: r, k, listed, a, w, hl, hB, h => by
    have h0 : ops[k]? = some o := by have := hl 0; simpa using this.symm
    have hl' : ∀ j, (r[j]?).map (·.2) = if j < r.length then ops[k + 1 + j]? else none := fun j => by
      have := hl (j + 1)
      simpa [Nat.add_assoc, Nat.add_comm 1 j] using this
    simp only [List.map_cons, lexMix, Bool.and_eq_true] at hB
    obtain ⟨⟨hr, hf⟩, hB'⟩ := hB
    obtain ⟨v, hy, hK⟩ := h
    exact wpAnyH_take h0 hs hf hr (fun c a w hh => hQ c a _ _ w hh) hy (Kept.refl _ _) (wpAnyH_of_grow hs hQ r (k + 1) _ _ w hl' hB' hK)
  | (false, o) :: r, k, listed, a, w, hl, hB, h => by
    have h0 : ops[k]? = some o := by have := hl 0; simpa using this.symm
    have hl' : ∀ j, (r[j]?).map (·.2) = if j < r.length then ops[k + 1 + j]? else none := fun j => by
      have := hl (j + 1)
      simpa [Nat.add_assoc, Nat.add_comm 1 j] using this
    simp only [List.map_cons, lexMix, Bool.and_eq_true, decide_eq_true_eq] at hB
    obtain ⟨hr, hB'⟩ := hB
    refine wpAnyH_all hr (by simp) fun i hi => ?_
    obtain rfl : i = k := by simpa using hi
    unfold wpGrow at h
    unfold wpOp
    simp only [h0]
    by_cases hw : Region.wanted o (yielded ops a.tmps) = true
    · rw [if_pos hw] at h ⊢
      refine .inl (Oper.wp_mono (fun a' w' hh => ⟨hh.1, ?_⟩) h)
      exact wpAnyH_mono (fun w'' h2 => hh.1.trans h2) _ _ _ _ (wpAnyH_of_grow hs hQ r (i + 1) _ a' w' hl' hB' hh.2)
    · rw [if_neg hw] at h ⊢
      exact ⟨Kept.refl _ _, wpAnyH_of_grow hs hQ r (i + 1) _ _ w hl' hB' h⟩

/-- THE BEGINNING. ks: which operation only reads. -/
theorem wp_region_grow {id : Nat} {a : Act} {w : World} {l : List Oper} (ks : List Bool) (ex : List Nat) (hm : P.follows .mixedOrders = true) (hQ : ∀ c a d v w, Q (.panic c) (Act.put a d v) w → Q (.panic c) a w)
    (hn : Region.noSelect l.toArray = true) (hk : ks.length = l.length) (hB : lexMix .any l.toArray ks 0 (Array.replicate l.toArray.size false) = true)
    (h : wpGrow P l.toArray Q ex (ks.zip l) a w.drew) : (Code.region id l.toArray true).wp P Q a w := by
  have hlen : (ks.zip l).length = l.length := by simp [hk]
  have h1 : (ks.zip l).map (·.1) = ks := List.map_fst_zip (by omega)
  have h2 : (ks.zip l).map (·.2) = l := List.map_snd_zip (by omega)
  have := wpAnyH_of_grow (ex := ex) (md := .any) hn hQ (ks.zip l) 0 _ a w.drew (fun j => by
    rw [← List.getElem?_map, h2, hlen]
    split
    · simp
    · rename_i hj
      simp at hj
      simp [hj]) (by rw [h1]; exact hB) h
  rw [hlen] at this
  refine wp_region_held (S := Kept ex w.drew) hm ?_
  exact this
end

end Go.Proofs.Ytlbenaodpfhjeaa
