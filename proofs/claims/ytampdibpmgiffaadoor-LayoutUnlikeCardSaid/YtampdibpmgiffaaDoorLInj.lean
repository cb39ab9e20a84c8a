/-
  Layer 3: unlike nodes have unlike bytes; unlike rows of entries, too. No program text.
  Conditions: those that each theorem states.
-/
import Derived.Test.YtampdibpmgiffaaDoorLEntP
namespace Go.Proofs.YtampdibpmgiffaaDoor
open Go.RowKit Go.Maps

theorem node_inj {k m s more k' m' s' more' : Nat} {r r' : List Nat} (h : validB k m s more (natI r) = true) (h' : validB k' m' s' more' (natI r') = true)
    (e1 : recL k (fieldsL m s more r) = recL k' (fieldsL m' s' more' r')) (e2 : moreOf r = moreOf r') : k = k' ∧ m = m' ∧ s = s' ∧ more = more' ∧ r = r' := by
  obtain ⟨a0, a1, a2, a3, a4, _, a6⟩ := take_put h
  obtain ⟨b0, b1, b2, b3, b4, _, b6⟩ := take_put h'
  obtain ⟨_, _, _, _, rr, _, _, _, _, er, _, _, _, _, _, hr, _, hl, _⟩ := valid_parts h
  obtain ⟨_, _, _, _, rr', _, _, _, _, er', _, _, _, _, _, hr', _, hl', _⟩ := valid_parts h'
  have hinj : ∀ {x y : List Nat}, natI x = natI y → x = y := fun {x y} e => by
    have := congrArg (List.map Int.toNat) e
    simpa [natI, Function.comp_def] using this
  obtain rfl := hinj er
  obtain rfl := hinj er'
  rw [← e1] at b0 b1 b2 b3 b4
  obtain rfl : k = k' := a0.symm.trans b0
  obtain rfl : m = m' := a1.symm.trans b1
  obtain rfl : s = s' := a2.symm.trans b2
  obtain rfl : more = more' := a3.symm.trans b3
  have ht : r.take 6 = r'.take 6 := a4.symm.trans b4
  have hlen : r.length = r'.length := by rw [a6] at b6; omega
  refine ⟨rfl, rfl, rfl, rfl, ?_⟩
  by_cases h6 : 6 < r.length
  · have h6' : 6 < r'.length := by omega
    unfold moreOf at e2
    rw [if_pos h6, if_pos h6'] at e2
    have p1 := (more_put (r := r.drop 6) (fun x hx => hr x (List.mem_of_mem_drop hx)) (by rw [List.length_drop]; omega)).1
    have p2 := (more_put (r := r'.drop 6) (fun x hx => hr' x (List.mem_of_mem_drop hx)) (by rw [List.length_drop]; omega)).1
    have hd : r.drop 6 = r'.drop 6 := by
      rw [← p1, ← p2, e2, List.length_drop, List.length_drop, hlen]
    rw [← List.take_append_drop 6 r, ← List.take_append_drop 6 r', ht, hd]
  · rw [List.take_of_length_le (by omega), List.take_of_length_le (by omega)] at ht
    exact ht

theorem entL_inj {n n' : Nat} {p p' : List UInt8} (hn : n < 256) (hn' : n' < 256) (hp : p.length ≤ 30) (hp' : p'.length ≤ 30) (h : entL n p = entL n' p') : n = n' ∧ p = p' := by
  unfold entL at h
  injection h with h1 h2
  injection h2 with h2 h3
  have hv : ∀ x y : Nat, x < 256 → y < 256 → loB x = loB y → x = y := fun x y hx hy e => by
    have := congrArg UInt8.toNat e
    simp [loB] at this
    omega
  have hl := hv _ _ (by omega) (by omega) h2
  have h4 := congrArg (List.take p.length) h3
  rw [List.take_left, hl, List.take_left] at h4
  exact ⟨hv _ _ hn hn' h1, h4⟩
theorem entsL_inj : ∀ {l l' : List Ent}, (∀ x ∈ l, (0 ≤ x.1 ∧ x.1 < 256) ∧ x.2.length ≤ 30) → (∀ x ∈ l', (0 ≤ x.1 ∧ x.1 < 256) ∧ x.2.length ≤ 30) → entsL l = entsL l' → l = l'
  | [], [], _, _, _ => rfl
  | [], y :: l', _, h', e => by
    have := congrArg List.length e
    rw [entsL_length (fun x hx => (h' x hx).2)] at this
    simp [entsL] at this
  | x :: l, [], h, _, e => by
    have := congrArg List.length e
    rw [entsL_length (fun x hx => (h x hx).2)] at this
    simp [entsL] at this
  | x :: l, y :: l', h, h', e => by
    obtain ⟨hx1, hx2⟩ := h x (by simp)
    obtain ⟨hy1, hy2⟩ := h' y (by simp)
    have e1 : entsL (x :: l) = entL x.1.toNat x.2 ++ entsL l := rfl
    have e2 : entsL (y :: l') = entL y.1.toNat y.2 ++ entsL l' := rfl
    rw [e1, e2] at e
    obtain ⟨e3, e4⟩ := List.append_inj e (by rw [entL_length hx2, entL_length hy2])
    obtain ⟨e5, e6⟩ := entL_inj (by omega) (by omega) hx2 hy2 e3
    have e7 := entsL_inj (fun z hz => h z (by simp [hz])) (fun z hz => h' z (by simp [hz])) e4
    obtain ⟨x1, x2⟩ := x
    obtain ⟨y1, y2⟩ := y
    simp only at e5 e6 hx1 hy1
    have : x1 = y1 := by omega
    rw [this, e6, e7]
theorem good_all {l : List Ent} (h : goodB l = true) : ∀ x ∈ l, (0 ≤ x.1 ∧ x.1 < 256) ∧ x.2.length ≤ 30 := fun x hx => by
  obtain ⟨k, hk, rfl⟩ := List.getElem_of_mem hx
  obtain ⟨⟨a, b⟩, c⟩ := good_ent h k hk
  have := (nameB_le c).2
  exact ⟨⟨by omega, by omega⟩, by omega⟩
end Go.Proofs.YtampdibpmgiffaaDoor
