/-
  Layer 8: graphs, an order, a rank, a cycle, and what is behind a number. No program text.
  Conditions: those that each theorem states.
-/
import Derived.Test.YtpdngekolhcndaaGEdg
namespace Go.Proofs.Ytpdngekolhcndaa
open Go.RowKit Go.Maps

/-- An edge leads from i to j. -/
def adjL (L : List Edg) (i j : Nat) : Bool := L.any fun x => decide (x.fr = (i : Int) ∧ x.tw = (j : Int))
/-- An edge's ends are numbers. -/
def EdOk (n : Int) (x : Edg) : Prop := 0 ≤ x.fr ∧ x.fr < n ∧ 0 ≤ x.tw ∧ x.tw < n
instance (n : Int) (x : Edg) : Decidable (EdOk n x) := by unfold EdOk; infer_instance
/-- There can be an order. -/
def GOk (n : Int) (L : List Edg) : Prop := (0 ≤ n ∧ n ≤ 32) ∧ ∀ x ∈ L, EdOk n x
instance (n : Int) (L : List Edg) : Decidable (GOk n L) := by unfold GOk; infer_instance
theorem adjL_lt {n : Nat} {L : List Edg} (h : GOk n L) {i j : Nat} (ha : adjL L i j = true) : i < n ∧ j < n := by
  unfold adjL at ha
  rw [List.any_eq_true] at ha
  obtain ⟨x, hx, he⟩ := ha
  have := h.2 x hx
  have he := of_decide_eq_true he
  unfold EdOk at this
  omega
theorem adjL_iff {L : List Edg} {i j : Nat} : adjL L i j = true ↔ ∃ x ∈ L, x.fr = (i : Int) ∧ x.tw = (j : Int) := by
  unfold adjL
  rw [List.any_eq_true]
  simp

/-- The least number below n that fits. -/
def lst (n : Nat) (p : Nat → Bool) : Option Nat := (List.range n).find? p
/-- As the program answers it. -/
def lstI (o : Option Nat) : Int := match o with
  | some i => i
  | none => -1
theorem lst_some {n : Nat} {p : Nat → Bool} {i : Nat} (h : lst n p = some i) : i < n ∧ p i = true ∧ ∀ j, j < i → p j = false := by
  unfold lst at h
  rw [List.find?_range_eq_some] at h
  obtain ⟨h1, h2, h3⟩ := h
  refine ⟨by simpa using h2, h1, fun j hj => ?_⟩
  have := h3 j hj
  simpa using this
theorem lst_none {n : Nat} {p : Nat → Bool} (h : lst n p = none) : ∀ j, j < n → p j = false := by
  unfold lst at h
  intro j hj
  have := List.find?_eq_none.1 h j (by simpa using hj)
  simpa using this
theorem lst_is {n : Nat} {p : Nat → Bool} {i : Nat} (h1 : i < n) (h2 : p i = true) (h3 : ∀ j, j < i → p j = false) : lst n p = some i := by
  cases h : lst n p with
  | none => have := lst_none h i h1; rw [h2] at this; cases this
  | some k =>
    obtain ⟨a, b, c⟩ := lst_some h
    by_cases e : k = i
    · rw [e]
    · by_cases f : k < i
      · have := h3 k f; rw [b] at this; cases this
      · have := c i (by omega); rw [h2] at this; cases this
theorem lst_nil {n : Nat} {p : Nat → Bool} (h : ∀ j, j < n → p j = false) : lst n p = none := by
  cases e : lst n p with
  | none => rfl
  | some k =>
    obtain ⟨a, b, c⟩ := lst_some e
    rw [h k a] at b; cases b
theorem lstI_none {o : Option Nat} : lstI o = -1 ↔ o = none := by
  cases o with
  | none => simp [lstI]
  | some k => simp [lstI]

/-- A set without one. -/
def less (S : Nat → Bool) (i : Nat) : Nat → Bool := fun k => S k && !decide (k = i)
/-- The least that is left ahead of i. -/
def aheadP (n : Nat) (A : Nat → Nat → Bool) (S : Nat → Bool) (i : Nat) : Option Nat := lst n fun j => S j && A j i
/-- i is left, and none that is left is ahead of it. -/
def freeP (n : Nat) (A : Nat → Nat → Bool) (S : Nat → Bool) (i : Nat) : Bool := S i && decide (aheadP n A S i = none)
/-- The rounds of selection: what was selected, and what is left where none can be. -/
def ordG (n : Nat) (A : Nat → Nat → Bool) : Nat → (Nat → Bool) → List Nat → Option (List Nat)
  | 0, _, out => some out
  | f + 1, S, out => match lst n (freeP n A S) with
    | none => none
    | some i => ordG n A f (less S i) (out ++ [i])
def allP (n : Nat) : Nat → Bool := fun i => decide (i < n)
def ordO (n : Nat) (A : Nat → Nat → Bool) : Option (List Nat) := ordG n A n (allP n) []

/-- What holds in the rounds. -/
structure OrdSt (n : Nat) (A : Nat → Nat → Bool) (S : Nat → Bool) (out : List Nat) : Prop where
  nodup : out.Nodup
  lt : ∀ i ∈ out, i < n
  left : ∀ i, S i = true ↔ i < n ∧ i ∉ out
  topo : ∀ k (hk : k < out.length) i, i < n → A i out[k] = true → i ∈ out.take k
theorem OrdSt.init (n : Nat) (A : Nat → Nat → Bool) : OrdSt n A (allP n) [] :=
  ⟨List.nodup_nil, fun i hi => (by cases hi), fun i => (by simp [allP]), fun k hk => absurd hk (by simp)⟩
theorem OrdSt.next {n : Nat} {A : Nat → Nat → Bool} {S : Nat → Bool} {out : List Nat} (h : OrdSt n A S out) {i : Nat} (hi : lst n (freeP n A S) = some i) : OrdSt n A (less S i) (out ++ [i]) := by
  obtain ⟨h1, h2, h3⟩ := lst_some hi
  unfold freeP at h2
  rw [Bool.and_eq_true, decide_eq_true_eq] at h2
  have h4 := (h.left i).1 h2.1
  refine ⟨?_, ?_, ?_, ?_⟩
  · rw [List.nodup_append]
    refine ⟨h.nodup, by simp, ?_⟩
    intro a ha b hb
    simp at hb
    subst hb
    intro e
    exact h4.2 (e ▸ ha)
  · intro k hk
    rw [List.mem_append] at hk
    rcases hk with hk | hk
    · exact h.lt k hk
    · simp at hk; omega
  · intro k
    unfold less
    rw [Bool.and_eq_true, h.left k]
    simp
    constructor
    · rintro ⟨⟨a, b⟩, c⟩; exact ⟨a, b, c⟩
    · rintro ⟨a, b, c⟩; exact ⟨⟨a, b⟩, c⟩
  · intro k hk j hj ha
    rw [List.length_append, List.length_singleton] at hk
    by_cases e : k < out.length
    · rw [List.getElem_append_left e] at ha
      rw [List.take_append_of_le_length (by omega)]
      exact h.topo k e j hj ha
    · have e2 : k = out.length := by omega
      subst e2
      rw [List.getElem_append_right (Nat.le_refl _)] at ha
      simp at ha
      rw [List.take_append_of_le_length (Nat.le_refl _), List.take_length]
      by_cases hm : j ∈ out
      · exact hm
      · have hs : S j = true := (h.left j).2 ⟨hj, hm⟩
        have := lst_none h2.2 j hj
        simp only [hs, ha] at this
        cases this
/-- Numbers below n, each once, are n at most; if they are n, all are there. -/
theorem nodup_len : ∀ (l m : List Nat), l.Nodup → (∀ i ∈ l, i ∈ m) → l.length ≤ m.length
  | [], m, _, _ => Nat.zero_le _
  | a :: l, m, h, hs => by
    have ha : a ∈ m := hs a (by simp)
    have h1 := nodup_len l (m.erase a) (List.nodup_cons.1 h).2 (fun i hi => (List.mem_erase_of_ne (by rintro rfl; exact (List.nodup_cons.1 h).1 hi)).2 (hs i (by simp [hi])))
    rw [List.length_erase_of_mem ha] at h1
    have : 0 < m.length := List.length_pos_of_mem ha
    simp; omega
theorem nodup_le {n : Nat} {l : List Nat} (h : l.Nodup) (hl : ∀ i ∈ l, i < n) : l.length ≤ n := by
  have : l.length ≤ (List.range n).length := nodup_len _ _ h fun i hi => by simpa using hl i hi
  simpa using this
theorem nodup_all {n : Nat} {l : List Nat} (h : l.Nodup) (hl : ∀ i ∈ l, i < n) (hn : n ≤ l.length) {i : Nat} (hi : i < n) : i ∈ l := by
  by_cases hm : i ∈ l
  · exact hm
  · have := nodup_le (n := n) (l := i :: l) (by simp [hm, h]) (fun k hk => by
      rcases List.mem_cons.1 hk with e | e
      · omega
      · exact hl k e)
    simp at this
    omega
theorem ordG_some {n : Nat} {A : Nat → Nat → Bool} : ∀ (f : Nat) (S : Nat → Bool) (out : List Nat), OrdSt n A S out → ∀ r, ordG n A f S out = some r → ∃ S', OrdSt n A S' r ∧ r.length = out.length + f
  | 0, S, out, h, r, e => by
    simp [ordG] at e
    subst e
    exact ⟨S, h, rfl⟩
  | f + 1, S, out, h, r, e => by
    unfold ordG at e
    split at e
    · cases e
    · rename_i i hi
      obtain ⟨S', h1, h2⟩ := ordG_some f _ _ (h.next hi) r e
      exact ⟨S', h1, by rw [h2]; simp; omega⟩
theorem ordG_none {n : Nat} {A : Nat → Nat → Bool} : ∀ (f : Nat) (S : Nat → Bool) (out : List Nat), OrdSt n A S out → out.length + f ≤ n → ordG n A f S out = none → ∃ S' out', OrdSt n A S' out' ∧ out'.length < n ∧ lst n (freeP n A S') = none
  | 0, S, out, h, _, e => by simp [ordG] at e
  | f + 1, S, out, h, hl, e => by
    unfold ordG at e
    split at e
    · rename_i hn
      exact ⟨S, out, h, by omega, hn⟩
    · rename_i i hi
      exact ordG_none f _ _ (h.next hi) (by simp; omega) e

/-- Each edge goes from what is lower to what is higher. -/
def RankOk (n : Nat) (A : Nat → Nat → Bool) (f : Nat → Nat) : Prop := ∀ i j, i < n → j < n → A i j = true → f i < f j
theorem ordO_some {n : Nat} {A : Nat → Nat → Bool} {r : List Nat} (h : ordO n A = some r) : r.Nodup ∧ (∀ i ∈ r, i < n) ∧ r.length = n ∧ (∀ i, i < n → i ∈ r) ∧ RankOk n A (fun i => r.idxOf i) := by
  obtain ⟨S', h1, h2⟩ := ordG_some n _ _ (OrdSt.init n A) r h
  simp at h2
  have hall : ∀ i, i < n → i ∈ r := fun i hi => nodup_all h1.nodup h1.lt (by omega) hi
  refine ⟨h1.nodup, h1.lt, h2, hall, fun i j hi hj ha => ?_⟩
  have hjr := hall j hj
  have hk := List.idxOf_lt_length_of_mem hjr
  have e : r[r.idxOf j] = j := List.getElem_idxOf hk
  have := h1.topo (r.idxOf j) hk i hi (by rw [e]; exact ha)
  obtain ⟨q, hq, e2⟩ := List.getElem_of_mem this
  rw [List.getElem_take] at e2
  rw [List.length_take] at hq
  have hq2 : q < r.length := by omega
  have : r.idxOf i = q := by
    rw [← e2]
    exact List.Nodup.idxOf_getElem h1.nodup q hq2
  show r.idxOf i < r.idxOf j
  omega
/-- What is left where none can be selected. -/
theorem stuck {n : Nat} {A : Nat → Nat → Bool} {S : Nat → Bool} (hs : lst n (freeP n A S) = none) {i : Nat} (hi : i < n) (hS : S i = true) : ∃ j, aheadP n A S i = some j ∧ j < n ∧ S j = true ∧ A j i = true := by
  have h := lst_none hs i hi
  unfold freeP at h
  rw [hS, Bool.true_and, decide_eq_false_iff_not] at h
  cases e : aheadP n A S i with
  | none => exact absurd e h
  | some j =>
    obtain ⟨h1, h2, _⟩ := lst_some e
    rw [Bool.and_eq_true] at h2
    exact ⟨j, rfl, h1, h2.1, h2.2⟩
theorem ordO_none {n : Nat} {A : Nat → Nat → Bool} (h : ordO n A = none) (f : Nat → Nat) (hf : RankOk n A f) : False := by
  obtain ⟨S, out, h1, h2, h3⟩ := ordG_none n _ _ (OrdSt.init n A) (by simp) h
  have hex : ∃ i, i < n ∧ S i = true := by
    refine Classical.byContradiction fun hc => ?_
    have : ∀ i ∈ List.range n, i ∈ out := fun i hi => by
      by_cases hm : i ∈ out
      · exact hm
      · exact absurd ⟨i, by simpa using hi, (h1.left i).2 ⟨by simpa using hi, hm⟩⟩ hc
    have := nodup_len _ _ List.nodup_range this
    simp at this
    omega
  obtain ⟨i, hi, hs⟩ := hex
  have key : ∀ m i, f i ≤ m → i < n → S i = true → False := by
    intro m
    induction m with
    | zero =>
      intro i hm hi hs
      obtain ⟨j, _, hj, hsj, ha⟩ := stuck h3 hi hs
      have := hf j i hj hi ha
      omega
    | succ m ih =>
      intro i hm hi hs
      obtain ⟨j, _, hj, hsj, ha⟩ := stuck h3 hi hs
      have := hf j i hj hi ha
      exact ih j (by omega) hj hsj
  exact key _ i (Nat.le_refl _) hi hs
/-- There is an order just where there is a rank. -/
theorem ordO_rank {n : Nat} {A : Nat → Nat → Bool} (f : Nat → Nat) (hf : RankOk n A f) : ∃ r, ordO n A = some r := by
  cases h : ordO n A with
  | none => exact absurd hf (fun hf => ordO_none h f hf)
  | some r => exact ⟨r, rfl⟩

/-- A cycle. -/
structure Cyc (A : Nat → Nat → Bool) (c : List Nat) : Prop where
  ne : 0 < c.length
  nodup : c.Nodup
  next : ∀ k (hk : k < c.length), A c[k] (c[(k + 1) % c.length]'(Nat.mod_lt _ ne)) = true
theorem Cyc.noRank {A : Nat → Nat → Bool} {c : List Nat} {n : Nat} (h : Cyc A c) (hl : ∀ i ∈ c, i < n) (f : Nat → Nat) (hf : RankOk n A f) : False := by
  have hne := h.ne
  have step : ∀ k (hk : k < c.length), f c[k] < f (c[(k + 1) % c.length]'(Nat.mod_lt _ hne)) := fun k hk => hf _ _ (hl _ (List.getElem_mem _)) (hl _ (List.getElem_mem _)) (h.next k hk)
  have key : ∀ k (hk : k < c.length), f c[0] + k ≤ f c[k] := by
    intro k
    induction k with
    | zero => intro hk; omega
    | succ k ih =>
      intro hk
      have h1 := ih (by omega)
      have h2 := step k (by omega)
      have e : (k + 1) % c.length = k + 1 := Nat.mod_eq_of_lt hk
      simp only [e] at h2
      omega
  have h1 := key (c.length - 1) (by omega)
  have h2 := step (c.length - 1) (by omega)
  have e : (c.length - 1 + 1) % c.length = 0 := by rw [show c.length - 1 + 1 = c.length by omega, Nat.mod_self]
  simp only [e] at h2
  omega

/-- One comes from i to j along one or more edges. -/
inductive Reach (A : Nat → Nat → Bool) : Nat → Nat → Prop
  | one {i j : Nat} : A i j = true → Reach A i j
  | more {i j k : Nat} : Reach A i j → A j k = true → Reach A i k
theorem Reach.trans {A : Nat → Nat → Bool} {i j k : Nat} (h : Reach A i j) (g : Reach A j k) : Reach A i k := by
  induction g with
  | one a => exact .more h a
  | more _ a ih => exact .more ih a
theorem Reach.rank {A : Nat → Nat → Bool} {n : Nat} (hA : ∀ i j, A i j = true → i < n ∧ j < n) {f : Nat → Nat} (hf : RankOk n A f) {i j : Nat} (h : Reach A i j) : f i < f j := by
  induction h with
  | one a => exact hf _ _ (hA _ _ a).1 (hA _ _ a).2 a
  | more _ a ih => have := hf _ _ (hA _ _ a).1 (hA _ _ a).2 a; omega
theorem Reach.lt {A : Nat → Nat → Bool} {n : Nat} (hA : ∀ i j, A i j = true → i < n ∧ j < n) {i j : Nat} (h : Reach A i j) : i < n ∧ j < n := by
  induction h with
  | one a => exact hA _ _ a
  | more _ a ih => exact ⟨ih.1, (hA _ _ a).2⟩
/-- A cycle's numbers are behind themselves. -/
theorem Cyc.reach {A : Nat → Nat → Bool} {c : List Nat} (h : Cyc A c) : Reach A (c[0]'h.ne) (c[0]'h.ne) := by
  have hne := h.ne
  have key : ∀ k (hk : k < c.length), Reach A c[0] (c[(k + 1) % c.length]'(Nat.mod_lt _ hne)) := by
    intro k
    induction k with
    | zero => intro hk; exact .one (h.next 0 hk)
    | succ k ih =>
      intro hk
      have h1 := ih (by omega)
      have h2 := h.next (k + 1) hk
      have e : (k + 1) % c.length = k + 1 := Nat.mod_eq_of_lt hk
      simp only [e] at h1
      exact .more h1 h2
  have h1 := key (c.length - 1) (by omega)
  have e : (c.length - 1 + 1) % c.length = 0 := by rw [show c.length - 1 + 1 = c.length by omega, Nat.mod_self]
  simp only [e] at h1
  exact h1
/-- An edge the other way round makes a cycle just if one comes from its second end to its first. -/
theorem back_rank {n : Nat} {A B : Nat → Nat → Bool} (hA : ∀ i j, A i j = true → i < n ∧ j < n) {f : Nat → Nat} (hf : RankOk n A f) {x y : Nat} (hne : y ≠ x) (hx : x < n) (hy : y < n)
    (hB : ∀ i j, B i j = true ↔ (A i j = true ∨ (i = y ∧ j = x))) : (∃ g, RankOk n B g) ↔ ¬ Reach A x y := by
  constructor
  · rintro ⟨g, hg⟩ hr
    have hgA : RankOk n A g := fun i j hi hj ha => hg i j hi hj ((hB i j).2 (.inl ha))
    have h1 := hr.rank hA hgA
    have h2 := hg y x hy hx ((hB y x).2 (.inr ⟨rfl, rfl⟩))
    omega
  · intro hn
    obtain ⟨M, hM⟩ : ∃ M, ∀ i, i < n → f i < M := by
      clear hf hA hB hx hy hn
      induction n with
      | zero => exact ⟨0, fun i hi => by omega⟩
      | succ n ih =>
        obtain ⟨M, h⟩ := ih
        exact ⟨M + f n + 1, fun i hi => by
          by_cases e : i < n
          · have := h i e; omega
          · have : i = n := by omega
            subst this; omega⟩
    classical
    refine ⟨fun i => f i + if (i = x ∨ Reach A x i) then M else 0, fun i j hi hj hb => ?_⟩
    show f i + _ < f j + _
    rcases (hB i j).1 hb with ha | ⟨rfl, rfl⟩
    · have h1 := hf i j hi hj ha
      by_cases hi2 : i = x ∨ Reach A x i
      · have hj2 : j = x ∨ Reach A x j := by
          rcases hi2 with rfl | hr
          · exact .inr (.one ha)
          · exact .inr (.more hr ha)
        rw [if_pos hi2, if_pos hj2]; omega
      · rw [if_neg hi2]; split <;> omega
    · have hi2 : ¬ (i = j ∨ Reach A j i) := by
        rintro (e | e)
        · exact hne e
        · exact hn e
      rw [if_neg hi2, if_pos (.inl rfl)]
      have := hM i hi
      omega
/-- What is closed, and reached, is what is behind. -/
theorem reach_is {A : Nat → Nat → Bool} {s : Nat} {Z : Nat → Bool} (h1 : ∀ j, Z j = true → Reach A s j) (h2 : ∀ j, A s j = true → Z j = true) (h3 : ∀ x j, Z x = true → A x j = true → Z j = true) (j : Nat) : Z j = true ↔ Reach A s j := by
  refine ⟨h1 j, fun h => ?_⟩
  induction h with
  | one a => exact h2 _ a
  | more _ a ih => exact h3 _ _ ih a
open Classical in
/-- All that is behind a number. -/
noncomputable def behL (n : Int) (L : List Edg) (s : Int) : List Nat := if GOk n L ∧ 0 ≤ s ∧ s < n then (List.range n.toNat).filter fun j => decide (Reach (adjL L) s.toNat j) else []
theorem behL_is {n : Int} {L : List Edg} {s : Nat} (h : GOk n L) (hs : (s : Int) < n) {Z : Nat → Bool} (hz : ∀ j, Z j = true ↔ Reach (adjL L) s j) : behL n L s = (List.range n.toNat).filter Z := by
  classical
  unfold behL
  rw [if_pos ⟨h, by omega, hs⟩]
  refine List.filter_congr fun j _ => ?_
  rw [Bool.eq_iff_iff, decide_eq_true_eq, hz j]
  simp
theorem behL_no {n : Int} {L : List Edg} {s : Int} (h : ¬ (GOk n L ∧ 0 ≤ s ∧ s < n)) : behL n L s = [] := by
  unfold behL
  rw [if_neg h]
theorem behL_mem {n : Int} {L : List Edg} {s j : Nat} (h : GOk n L) (hs : (s : Int) < n) : j ∈ behL n L s ↔ Reach (adjL L) s j := by
  obtain ⟨m, rfl⟩ : ∃ m : Nat, n = m := ⟨n.toNat, by have := h.1; omega⟩
  unfold behL
  rw [if_pos ⟨h, by omega, hs⟩]
  simp
  intro hr
  exact (hr.lt fun i j => adjL_lt h).2
end Go.Proofs.Ytpdngekolhcndaa
