/-
  Layer 6: the document's first, rules, value and title.
  Conditions: those that each theorem states.
  Layer 6: the document's value and title.
  Conditions: those that each theorem states.
  Layer 6: the document's test of parameters is the program's. No program text.
  Conditions: those that each theorem states.
-/
import Derived.Test.YteanhjfdpjekbaaDoorQRef
namespace Go.Proofs.YteanhjfdpjekbaaDoor
open Go.RowKit Go.Maps
set_option maxRecDepth 100000

/-- The cells of rules. -/
def rlv : List (Prm × Bool) → List Value
  | [] => []
  | x :: l => .string (strL x.1.1) :: .string (strL x.1.2) :: .bool x.2 :: rlv l
theorem rlv_get : ∀ (l : List (Prm × Bool)) (k : Nat) (hk : k < l.length), (rlv l)[3 * k]? = some (.string (strL l[k].1.1)) ∧ (rlv l)[3 * k + 1]? = some (.string (strL l[k].1.2)) ∧ (rlv l)[3 * k + 2]? = some (.bool l[k].2)
  | x :: l, 0, _ => ⟨rfl, rfl, rfl⟩
  | x :: l, k + 1, hk => by
    have := rlv_get l k (by simpa using hk)
    rw [show 3 * (k + 1) = 3 * k + 3 by omega, show 3 * k + 3 + 1 = 3 * k + 1 + 3 by omega, show 3 * k + 3 + 2 = 3 * k + 2 + 3 by omega]
    simpa [rlv] using this
/-- A slice of rules. -/
def RuleRow (w : World) (v : Value) (L : List (Prm × Bool)) : Prop :=
  (L = [] ∧ v = .slice none 0 0) ∨ ∃ b cap, v = .slice (some ⟨b, 0, none⟩) L.length cap ∧ b < w.heap.size ∧ w.rangeAt b 0 (rlv L)
theorem RuleRow.kept {w w' : World} {v : Value} {L : List (Prm × Bool)} (h : RuleRow w v L) (hk : Kept [] w w') : RuleRow w' v L := by
  rcases h with h | ⟨b, cap, rfl, hb, hr⟩
  · exact .inl h
  · exact .inr ⟨b, cap, rfl, Nat.lt_of_lt_of_le hb hk.size, hk.range hb (by simp) hr⟩
theorem RuleRow.cell {w : World} {v : Value} {L : List (Prm × Bool)} (h : RuleRow w v L) : ∃ ao cap, v = .slice ao L.length cap ∧ (0 < L.length → ∃ b, ao = some ⟨b, 0, none⟩ ∧ b < w.heap.size ∧ ∀ k (hk : k < L.length),
    w.cell? ⟨b, k * 3, none⟩ = some (.string (strL L[k].1.1)) ∧ w.cell? ⟨b, k * 3 + 1, none⟩ = some (.string (strL L[k].1.2)) ∧ w.cell? ⟨b, k * 3 + 2, none⟩ = some (.bool L[k].2)) := by
  rcases h with ⟨rfl, rfl⟩ | ⟨b, cap, rfl, hb, hr⟩
  · exact ⟨none, 0, rfl, fun h => absurd h (by simp)⟩
  · refine ⟨_, cap, rfl, fun _ => ⟨b, rfl, hb, fun k hk => ?_⟩⟩
    obtain ⟨e0, e1, e2⟩ := rlv_get L k hk
    have f0 := hr _ _ e0
    have f1 := hr _ _ e1
    have f2 := hr _ _ e2
    rw [show 0 + 3 * k = k * 3 by omega] at f0
    rw [show 0 + (3 * k + 1) = k * 3 + 1 by omega] at f1
    rw [show 0 + (3 * k + 2) = k * 3 + 2 by omega] at f2
    exact ⟨f0, f1, f2⟩
/-- What the document's table says. -/
def rulesK (k : Nat) (st : List UInt8) : List (Prm × Bool) := (slotsK k st).map fun s => ((s.1, if s.1 = nEnsure ∧ st ≠ dfltK k then [] else s.2), decide (s.1 = nTarget))
def RulesOut (k st : List UInt8) (w : World) (e : Ending) (w' : World) : Prop := ∃ v b, e = .returned (.tuple #[v, .bool b]) ∧ Hid (b = decide (slotsK (kindI k) st ≠ []) ∧ RuleRow w' v (rulesK (kindI k) st) ∧ Kept [] w w')
theorem RulesOut.no {k st : List UInt8} {w : World} (h0 : slotsK (kindI k) st = []) : RulesOut k st w (.returned (.tuple #[.slice none 0 0, .bool false])) w := by
  refine ⟨_, _, rfl, by rw [h0]; rfl, .inl ⟨by unfold rulesK; rw [h0]; rfl, rfl⟩, Kept.refl _ _⟩
theorem strL_app (a b : List UInt8) : strL a ++ strL b = strL (a ++ b) := by
  apply ByteArray.ext
  apply Array.toList_inj.1
  simp [strL]

theorem kindI_cases {t : List UInt8} (h : kindI t ≠ 0) : t = nFile ∨ t = nAccount ∨ t = nGroup ∨ t = nPackage ∨ t = nService := by
  unfold kindI at h
  by_cases h0 : t = nFile; · exact .inl h0
  by_cases h1 : t = nAccount; · exact .inr (.inl h1)
  by_cases h2 : t = nGroup; · exact .inr (.inr (.inl h2))
  by_cases h3 : t = nPackage; · exact .inr (.inr (.inr (.inl h3)))
  by_cases h4 : t = nService; · exact .inr (.inr (.inr (.inr h4)))
  rw [if_neg h0, if_neg h1, if_neg h2, if_neg h3, if_neg h4] at h
  exact absurd rfl h
end Go.Proofs.YteanhjfdpjekbaaDoor

namespace Go.Proofs.YteanhjfdpjekbaaDoor
open Go.RowKit Go.Maps
set_option maxRecDepth 100000

theorem modeB_eq (v : List UInt8) : modeB v = ((dgB v 55 && (decide ((4 : Int) ≤ (v.length : Int)) && decide ((v.length : Int) ≤ 4))) && decide (v.head? = some 48)) := by
  unfold modeB
  by_cases h : v.length = 4
  · rw [decide_eq_true h, decide_eq_true (show (4 : Int) ≤ (v.length : Int) by omega), decide_eq_true (show (v.length : Int) ≤ 4 by omega)]
    cases dgB v 55 <;> cases decide (v.head? = some 48) <;> rfl
  · rw [decide_eq_false h]
    by_cases h2 : (4 : Int) ≤ (v.length : Int)
    · rw [decide_eq_false (show ¬ (v.length : Int) ≤ 4 by omega)]
      cases dgB v 55 <;> simp
    · rw [decide_eq_false h2]
      cases dgB v 55 <;> simp
theorem idB_eq (v : List UInt8) : idB v = (dgB v 57 && (decide ((1 : Int) ≤ (v.length : Int)) && decide ((v.length : Int) ≤ 5))) := by
  unfold idB
  rw [show decide ((1 : Int) ≤ (v.length : Int)) = decide (1 ≤ v.length) from decide_eq_decide.2 (by omega), show decide ((v.length : Int) ≤ 5) = decide (v.length ≤ 5) from decide_eq_decide.2 (by omega)]
  cases dgB v 57 <;> cases decide (1 ≤ v.length) <;> cases decide (v.length ≤ 5) <;> rfl
end Go.Proofs.YteanhjfdpjekbaaDoor

namespace Go.Proofs.YteanhjfdpjekbaaDoor
open Go.RowKit Go.Maps
set_option maxRecDepth 100000

def knB (S : List Prm) (n : List UInt8) : Bool := S.any fun x => decide (x.1 = n)
def prevN (P : List Prm) (i : Nat) : List UInt8 := ((P[i - 1]?).map (·.1)).getD []
/-- What the document asks of a parameter at its place. -/
def stepB (S P : List Prm) (i : Nat) (p : Prm) : Bool := knB S p.1 && ((decide (i = 0) || lessB (prevN P i) p.1) && valB p.1 p.2)
def docOk (S P : List Prm) : Prop := (∀ i (hi : i < P.length), stepB S P i P[i] = true) ∧ ∀ s ∈ S, s.1 = nTarget → getB P s.1 = true
theorem kn_iff {S : List Prm} {n : List UInt8} : knB S n = true ↔ ∃ s ∈ S, s.1 = n := by
  unfold knB
  rw [List.any_eq_true]
  constructor
  · rintro ⟨s, h1, h2⟩; exact ⟨s, h1, by simpa using h2⟩
  · rintro ⟨s, h1, h2⟩; exact ⟨s, h1, by simpa using h2⟩
theorem rise_adj {P : List Prm} (h : ∀ i (hi : i + 1 < P.length), lessB P[i].1 P[i + 1].1 = true) : rise P := by
  unfold rise
  rw [List.pairwise_iff_getElem]
  intro i j hi hj hij
  induction j with
  | zero => omega
  | succ j ih =>
    by_cases e : i = j
    · subst e; exact h i hj
    · exact less_tr (ih (by omega) (by omega)) (h j hj)
theorem rise_get {P : List Prm} (h : rise P) (i : Nat) (hi : i + 1 < P.length) : lessB P[i].1 P[i + 1].1 = true := by
  unfold rise at h
  rw [List.pairwise_iff_getElem] at h
  exact h i (i + 1) (by omega) hi (by omega)
theorem getB_iff {P : List Prm} {n : List UInt8} : getB P n = true ↔ ∃ p ∈ P, p.1 = n := by
  unfold getB
  constructor
  · intro h
    cases hg : getP P n with
    | none => rw [hg] at h; cases h
    | some v => exact ⟨(n, v), getP_some hg, rfl⟩
  · rintro ⟨p, hp, rfl⟩
    cases hg : getP P p.1 with
    | some v => rfl
    | none =>
      exfalso
      unfold getP at hg
      cases hf : P.find? (fun q => decide (q.1 = p.1)) with
      | none =>
        rw [List.find?_eq_none] at hf
        exact hf p hp (by simp)
      | some q => rw [hf] at hg; cases hg
theorem takes_self (st : List UInt8) : takesB st nEnsure st = true := by unfold takesB; rw [if_pos rfl]; simp
theorem slots_dflt (k : Nat) (st : List UInt8) : ∀ s ∈ slotsK k st, s.1 = nTarget ∨ takesB st s.1 s.2 = true := by
  have c1 : ∀ n v, n ≠ nEnsure → valB n v = true → takesB st n v = true := fun n v h1 h2 => by rw [takes_of h1]; exact h2
  intro s hs
  unfold slotsK fileK recK servK at hs
  split at hs
  · split at hs
    · simp only [List.mem_cons, List.not_mem_nil, or_false] at hs
      rcases hs with rfl | rfl | rfl
      · exact .inr (c1 _ _ (by decide) (by rw [valB_content]; decide))
      · exact .inr (takes_self st)
      · exact .inr (c1 _ _ (by decide) (by rw [valB_mode]; decide))
    · split at hs
      · simp only [List.mem_cons, List.not_mem_nil, or_false] at hs
        rcases hs with rfl | rfl | rfl
        · exact .inr (takes_self st)
        · exact .inr (c1 _ _ (by decide) (by rw [valB_mode]; decide))
        · exact .inr (c1 _ _ (by decide) (by rw [valB_purge]; decide))
      · split at hs
        · simp only [List.mem_cons, List.not_mem_nil, or_false] at hs
          rcases hs with rfl | rfl
          · exact .inr (takes_self st)
          · exact .inl rfl
        · split at hs
          · simp only [List.mem_cons, List.not_mem_nil, or_false] at hs
            subst hs
            exact .inr (takes_self st)
          · cases hs
  · split at hs
    · split at hs
      · simp only [lAccount, List.mem_cons, List.not_mem_nil, or_false] at hs
        rcases hs with rfl | rfl | rfl | rfl
        · exact .inr (takes_self st)
        · exact .inr (c1 _ _ (by decide) (by rw [valB_group]; decide))
        · exact .inr (c1 _ _ (by decide) (by rw [valB_shell]; decide))
        · exact .inr (c1 _ _ (by decide) (by rw [valB_uid]; decide))
      · split at hs
        · simp only [List.mem_cons, List.not_mem_nil, or_false] at hs
          subst hs
          exact .inr (takes_self st)
        · cases hs
    · split at hs
      · split at hs
        · simp only [lGroup, List.mem_cons, List.not_mem_nil, or_false] at hs
          rcases hs with rfl | rfl
          · exact .inr (takes_self st)
          · exact .inr (c1 _ _ (by decide) (by rw [valB_gid]; decide))
        · split at hs
          · simp only [List.mem_cons, List.not_mem_nil, or_false] at hs
            subst hs
            exact .inr (takes_self st)
          · cases hs
      · split at hs
        · split at hs
          · simp only [lPackage, List.mem_cons, List.not_mem_nil, or_false] at hs
            rcases hs with rfl | rfl
            · exact .inr (takes_self st)
            · exact .inr (c1 _ _ (by decide) (by rw [valB_version]; decide))
          · split at hs
            · simp only [List.mem_cons, List.not_mem_nil, or_false] at hs
              subst hs
              exact .inr (takes_self st)
            · cases hs
        · split at hs
          · split at hs
            · simp only [List.mem_cons, List.not_mem_nil, or_false] at hs
              subst hs
              exact .inr (takes_self st)
            · split at hs
              · simp only [List.mem_cons, List.not_mem_nil, or_false] at hs
                subst hs
                exact .inr (takes_self st)
              · cases hs
          · cases hs
theorem slots_target (k : Nat) (st : List UInt8) : ∀ s ∈ slotsK k st, s.1 = nTarget → s.2 = [] := by
  have n0 : nContent ≠ nTarget := by decide
  have n1 : nEnsure ≠ nTarget := by decide
  have n2 : nMode ≠ nTarget := by decide
  have n3 : nPurge ≠ nTarget := by decide
  have n4 : nGroup ≠ nTarget := by decide
  have n5 : nShell ≠ nTarget := by decide
  have n6 : nUid ≠ nTarget := by decide
  have n7 : nGid ≠ nTarget := by decide
  have n8 : nVersion ≠ nTarget := by decide
  unfold slotsK fileK recK servK
  split
  · split
    · simp [n0, n1, n2]
    · split
      · simp [n1, n2, n3]
      · split
        · simp [n1]
        · split <;> simp [n1]
  · split
    · split
      · simp [lAccount, n1, n4, n5, n6]
      · split <;> simp [n1]
    · split
      · split
        · simp [lGroup, n1, n7]
        · split <;> simp [n1]
      · split
        · split
          · simp [lPackage, n1, n8]
          · split <;> simp [n1]
        · split
          · split
            · simp [n1]
            · split <;> simp [n1]
          · simp
theorem kindI_le (t : List UInt8) : kindI t ≤ 5 := by
  unfold kindI
  repeat' split
  all_goals omega
theorem slots_first {k : Nat} (h0 : k ≠ 0) (h5 : k ≤ 5) : slotsK k (dfltK k) ≠ [] := by
  rcases (by omega : k = 1 ∨ k = 2 ∨ k = 3 ∨ k = 4 ∨ k = 5) with rfl | rfl | rfl | rfl | rfl <;> decide
theorem pathB_nil : pathB [] = false := by decide
theorem valB_ensure (v : List UInt8) : valB nEnsure v = true := by
  unfold valB
  rw [if_neg (by decide), if_neg (by decide), if_neg (by decide), if_neg (by decide), if_neg (by decide), if_neg (by decide), if_neg (by decide), if_neg (by decide), if_neg (by decide)]
  exact decide_eq_true rfl
theorem prevN_of {P : List Prm} {i : Nat} (hi : i < P.length) (h0 : 0 < i) : prevN P i = (P[i - 1]'(by omega)).1 := by
  unfold prevN
  rw [List.getElem?_eq_getElem (by omega)]; rfl
theorem doc_good {t : List UInt8} {P : List Prm} : docOk (slotsK (kindI t) (stO t P)) P ↔ goodP (takesB (stO t P)) (slotsK (kindI t) (stO t P)) P := by
  constructor
  · rintro ⟨h1, h2⟩
    have hr : rise P := rise_adj fun i hi => by
      have := h1 (i + 1) hi
      unfold stepB at this
      simp only [Bool.and_eq_true, Bool.or_eq_true, decide_eq_true_eq] at this
      rcases this.2.1 with h | h
      · omega
      · rw [prevN_of hi (by omega)] at h
        exact h
    refine ⟨hr, fun p hp => ?_, fun s hs => ?_⟩
    · obtain ⟨i, hi, rfl⟩ := List.getElem_of_mem hp
      have := h1 i hi
      unfold stepB at this
      simp only [Bool.and_eq_true] at this
      obtain ⟨s, hs, hse⟩ := kn_iff.1 this.1
      refine ⟨s, hs, hse, ?_⟩
      by_cases he : P[i].1 = nEnsure
      · have hg := getP_mem hr hp
        have : stO t P = P[i].2 := by
          unfold stO
          rw [← he, hg]; rfl
        rw [this, he]
        exact takes_self _
      · rw [takes_of he]
        exact this.2.2
    · rcases slots_dflt _ _ s hs with h | h
      · exact .inr (getB_iff.1 (h2 s hs h))
      · exact .inl h
  · rintro ⟨hr, h1, h2⟩
    refine ⟨fun i hi => ?_, fun s hs ht => ?_⟩
    · obtain ⟨s, hs, hse, hst⟩ := h1 _ (List.getElem_mem hi)
      unfold stepB
      simp only [Bool.and_eq_true, Bool.or_eq_true, decide_eq_true_eq]
      refine ⟨kn_iff.2 ⟨s, hs, hse⟩, ?_, ?_⟩
      · by_cases h0 : i = 0
        · exact .inl h0
        · right
          rw [prevN_of hi (by omega)]
          have := rise_get hr (i - 1) (by omega)
          have e : i - 1 + 1 = i := by omega
          simp only [e] at this
          exact this
      · by_cases he : P[i].1 = nEnsure
        · rw [he]; exact valB_ensure _
        · rw [takes_of he] at hst
          exact hst
    · rcases h2 s hs with h | h
      · rw [ht, slots_target _ _ s hs ht, takes_of (by decide), valB_target, pathB_nil] at h
        cases h
      · exact getB_iff.2 h
theorem codeO_no {t ti : List UInt8} {P : List Prm} (h1 : kindI t ≠ 0) (h2 : titleK (kindI t) ti = true) (h3 : ¬ docOk (slotsK (kindI t) (stO t P)) P) : codeO t ti P = 62 := by
  unfold codeO
  rw [if_neg h1, if_neg (by rw [h2]; simp), if_pos]
  have hf := fill_iff (takesB (stO t P)) (slotsK (kindI t) (stO t P)) P [] (slots_rise _ _)
  classical
  rw [if_neg fun h => h3 (doc_good.2 h)] at hf
  exact hf
theorem codeO_yes {t ti : List UInt8} {P : List Prm} (h1 : kindI t ≠ 0) (h2 : titleK (kindI t) ti = true) (h3 : docOk (slotsK (kindI t) (stO t P)) P) : codeO t ti P = 0 := codeO_of h1 h2 (doc_good.1 h3)
theorem codeO_none {t ti : List UInt8} {P : List Prm} (h1 : kindI t ≠ 0) (h2 : titleK (kindI t) ti = true) (h3 : slotsK (kindI t) (stO t P) = []) : codeO t ti P = 62 := by
  refine codeO_no h1 h2 fun h => ?_
  have hg := doc_good.1 h
  rw [h3] at hg
  cases P with
  | nil => exact slots_first h1 (kindI_le t) h3
  | cons p g => obtain ⟨s, hs, _⟩ := hg.2.1 p (by simp); cases hs
theorem not_step {S P : List Prm} {i : Nat} (hi : i < P.length) (h : stepB S P i P[i] = false) : ¬ docOk S P := fun hd => by rw [hd.1 i hi] at h; cases h
theorem not_target {S P : List Prm} {s : Prm} (hs : s ∈ S) (ht : s.1 = nTarget) (h : getB P s.1 = false) : ¬ docOk S P := fun hd => by rw [hd.2 s hs ht] at h; cases h
end Go.Proofs.YteanhjfdpjekbaaDoor
