/-
  Layer 6: what a full resource's parameters are. No program text.
  Conditions: those that each theorem states.
-/
import Derived.Test.YtfofhnbijjocfaaGreatDoorQDpure
namespace Go.Proofs.YtfofhnbijjocfaaGreatDoor
open Go.RowKit Go.Maps
set_option maxRecDepth 100000

theorem getP_iff {P : List Prm} (hr : rise P) {n v : List UInt8} : getP P n = some v ↔ (n, v) ∈ P := ⟨getP_some, fun h => getP_mem hr h⟩
theorem rise_out {S P : List Prm} (h : rise S) : rise (outP S P) := by
  unfold rise outP at *
  rw [List.pairwise_map]
  exact h
theorem getP_outP {S P : List Prm} (h : rise S) {s : Prm} (hs : s ∈ S) : getP (outP S P) s.1 = some ((getP P s.1).getD s.2) := by
  refine (getP_iff (rise_out h)).2 ?_
  unfold outP
  rw [List.mem_map]
  exact ⟨s, hs, rfl⟩
theorem slots_ensure (k : Nat) (st : List UInt8) (h : slotsK k st ≠ []) : (nEnsure, st) ∈ slotsK k st := by
  unfold slotsK fileK recK servK at *
  split
  · rename_i h1
    rw [if_pos h1] at h
    split
    · simp
    · rename_i h2
      rw [if_neg h2] at h
      split
      · simp
      · rename_i h3
        rw [if_neg h3] at h
        split
        · simp
        · rename_i h4
          rw [if_neg h4] at h
          split
          · simp
          · rename_i h5
            rw [if_neg h5] at h
            exact absurd rfl h
  · rename_i h1
    rw [if_neg h1] at h
    split
    · rename_i h2
      rw [if_pos h2] at h
      split
      · simp
      · rename_i h3
        rw [if_neg h3] at h
        split
        · simp
        · rename_i h4
          rw [if_neg h4] at h
          exact absurd rfl h
    · rename_i h2
      rw [if_neg h2] at h
      split
      · rename_i h3
        rw [if_pos h3] at h
        split
        · simp
        · rename_i h4
          rw [if_neg h4] at h
          split
          · simp
          · rename_i h5
            rw [if_neg h5] at h
            exact absurd rfl h
      · rename_i h3
        rw [if_neg h3] at h
        split
        · rename_i h4
          rw [if_pos h4] at h
          split
          · simp
          · rename_i h5
            rw [if_neg h5] at h
            split
            · simp
            · rename_i h6
              rw [if_neg h6] at h
              exact absurd rfl h
        · rename_i h4
          rw [if_neg h4] at h
          split
          · rename_i h5
            rw [if_pos h5] at h
            split
            · simp
            · rename_i h6
              rw [if_neg h6] at h
              split
              · simp
              · rename_i h7
                rw [if_neg h7] at h
                exact absurd rfl h
          · rename_i h5
            rw [if_neg h5] at h
            exact absurd rfl h
theorem good_ne {t : List UInt8} {P : List Prm} (hk : kindI t ≠ 0) (h : goodP (takesB (stO t P)) (slotsK (kindI t) (stO t P)) P) : slotsK (kindI t) (stO t P) ≠ [] := by
  intro h3
  rw [h3] at h
  cases P with
  | nil => exact slots_first hk (kindI_le t) h3
  | cons p g => obtain ⟨s, hs, _⟩ := h.2.1 p (by simp); cases hs
/-- The state that is told stays. -/
theorem st_out {t : List UInt8} {P : List Prm} (hn : slotsK (kindI t) (stO t P) ≠ []) : getP (outP (slotsK (kindI t) (stO t P)) P) nEnsure = some (stO t P) := by
  have := getP_outP (P := P) (slots_rise (kindI t) (stO t P)) (slots_ensure _ _ hn)
  rw [this]
  congr 1
  show (getP P nEnsure).getD (stO t P) = stO t P
  cases hg : getP P nEnsure with
  | none => rfl
  | some v => unfold stO; rw [hg]; rfl
theorem stO_of {t : List UInt8} {O : List Prm} {st : List UInt8} (h : getP O nEnsure = some st) : stO t O = st := by unfold stO; rw [h]; rfl
/-- What is full is full of itself. -/
theorem full_again {t ti : List UInt8} {P : List Prm} (h : codeO t ti P = 0) : codeO t ti (outO t ti P) = 0 ∧ outO t ti (outO t ti P) = outO t ti P := by
  obtain ⟨h1, h2, h3, h4⟩ := codeO_ok h
  have hne := good_ne h1 h3
  have hst := st_out hne
  rw [← h4] at hst
  have hsto : stO t (outO t ti P) = stO t P := stO_of hst
  obtain ⟨S, hS⟩ : ∃ S, slotsK (kindI t) (stO t P) = S := ⟨_, rfl⟩
  have hrS : rise S := by rw [← hS]; exact slots_rise _ _
  rw [hS] at h3 h4
  have hg : goodP (takesB (stO t P)) S (outO t ti P) := by
    rw [h4]
    refine ⟨rise_out hrS, fun p hp => ?_, fun s hs => ?_⟩
    · unfold outP at hp
      obtain ⟨s, hs, rfl⟩ := List.mem_map.1 hp
      refine ⟨s, hs, rfl, ?_⟩
      show takesB _ s.1 ((getP P s.1).getD s.2) = true
      cases hgp : getP P s.1 with
      | some v =>
        obtain ⟨s', _, he, ht⟩ := h3.2.1 _ (getP_some hgp)
        exact ht
      | none =>
        rcases h3.2.2 s hs with ht | ⟨p, hp, he⟩
        · exact ht
        · have := getP_mem h3.1 hp
          rw [he, hgp] at this
          cases this
    · right
      exact ⟨(s.1, (getP P s.1).getD s.2), List.mem_map.2 ⟨s, hs, rfl⟩, rfl⟩
  have hc : codeO t ti (outO t ti P) = 0 := codeO_of h1 h2 (by rw [hsto, hS]; exact hg)
  refine ⟨hc, ?_⟩
  obtain ⟨_, _, _, h5⟩ := codeO_ok hc
  rw [h5, hsto, hS]
  conv => rhs; rw [h4]
  unfold outP
  refine List.map_congr_left fun s hs => ?_
  rw [h4, getP_outP hrS hs]; rfl
/-- What was told is kept. -/
theorem full_keeps {t ti : List UInt8} {P : List Prm} (h : codeO t ti P = 0) : ∀ p ∈ P, getP (outO t ti P) p.1 = some p.2 := by
  obtain ⟨h1, h2, h3, h4⟩ := codeO_ok h
  intro p hp
  obtain ⟨s, hs, he, _⟩ := h3.2.1 p hp
  rw [h4, ← he, getP_outP (slots_rise _ _) hs, he, getP_mem h3.1 hp]; rfl
theorem full_rise {t ti : List UInt8} {P : List Prm} (h : codeO t ti P = 0) : rise (outO t ti P) := by
  obtain ⟨_, _, _, h4⟩ := codeO_ok h
  rw [h4]
  exact rise_out (slots_rise _ _)

/-- Which ensures there are. -/
def knownB (st : List UInt8) : Bool := decide (st = nPresent) || (decide (st = nAbsent) || (decide (st = nFile) || (decide (st = nDirectory) || (decide (st = nRunning) || decide (st = nStopped)))))
def bareB (st : List UInt8) : Bool := decide (st = nAbsent) || (decide (st = nRunning) || decide (st = nStopped))
theorem slots_known {k : Nat} {st : List UInt8} (h : slotsK k st ≠ []) (hl : st ≠ nLink) : knownB st = true := by
  by_cases hk : knownB st = true
  · exact hk
  · exfalso
    apply h
    unfold knownB at hk
    simp only [Bool.or_eq_true, decide_eq_true_eq, not_or] at hk
    obtain ⟨n1, n2, n3, n4, n5, n6⟩ := hk
    unfold slotsK fileK recK servK
    simp only [if_neg n1, if_neg n2, if_neg n3, if_neg n4, if_neg n5, if_neg n6, if_neg hl, ite_self]
theorem slots_bare {k : Nat} {st : List UInt8} (hk : k ≤ 5) (h : bareB st = true) : (slotsK k st).length ≤ 1 := by
  unfold bareB at h
  simp only [Bool.or_eq_true, decide_eq_true_eq] at h
  rcases (by omega : k = 0 ∨ k = 1 ∨ k = 2 ∨ k = 3 ∨ k = 4 ∨ k = 5) with rfl | rfl | rfl | rfl | rfl | rfl <;> rcases h with rfl | rfl | rfl <;> decide
theorem ensures_pure {t ti st : List UInt8} (h : codeO t ti [(nEnsure, st)] = 0) : knownB st = true ∧ getP (outO t ti [(nEnsure, st)]) nEnsure = some st ∧ (bareB st = true → (outO t ti [(nEnsure, st)]).length = 1) := by
  obtain ⟨h1, h2, h3, h4⟩ := codeO_ok h
  have hne := good_ne h1 h3
  have hst : stO t [(nEnsure, st)] = st := stO_of (getP_cons_same (nEnsure, st) [])
  rw [hst] at h3 h4 hne
  refine ⟨slots_known hne fun hl => ?_, ?_, fun hb => ?_⟩
  · subst hl
    have hk : (nTarget, []) ∈ slotsK (kindI t) nLink := by
      have := kindI_le t
      rcases (by omega : kindI t = 1 ∨ kindI t = 2 ∨ kindI t = 3 ∨ kindI t = 4 ∨ kindI t = 5) with hk | hk | hk | hk | hk <;> rw [hk] at hne ⊢
      · decide
      all_goals exact absurd (by decide) hne
    rcases h3.2.2 _ hk with ht | ⟨p, hp, he⟩
    · rw [takes_of (show nTarget ≠ nEnsure by decide), valB_target, pathB_nil] at ht
      cases ht
    · simp only [List.mem_singleton] at hp
      subst hp
      exact absurd he (by decide)
  · rw [h4]
    have := st_out (t := t) (P := [(nEnsure, st)]) (by rw [hst]; exact hne)
    rw [hst] at this
    exact this
  · rw [h4]
    unfold outP
    rw [List.length_map]
    have := slots_bare (kindI_le t) hb
    have : (slotsK (kindI t) st).length ≠ 0 := fun e => hne (List.eq_nil_of_length_eq_zero e)
    omega

theorem code_cases {t ti : List UInt8} {P Q : List Prm} (h : codeO t ti P = 0) : codeO t ti Q = 62 ∨ codeO t ti Q = 0 := by
  obtain ⟨h1, h2, _, _⟩ := codeO_ok h
  unfold codeO
  rw [if_neg h1, if_neg (by rw [h2]; simp)]
  split
  · exact .inl rfl
  · exact .inr rfl
theorem rise_erase {O : List Prm} (h : rise O) (i : Nat) : rise (O.eraseIdx i) := List.Pairwise.sublist (List.eraseIdx_sublist ..) h
theorem getP_erase {O : List Prm} (h : rise O) {i : Nat} (hi : i < O.length) {n : List UInt8} (hn : n ≠ O[i].1) : getP (O.eraseIdx i) n = getP O n := by
  have hiff : ∀ v, getP (O.eraseIdx i) n = some v ↔ getP O n = some v := fun v => by
    rw [getP_iff (rise_erase h i), getP_iff h, List.mem_eraseIdx_iff_getElem]
    constructor
    · rintro ⟨j, hj, _, e⟩
      rw [← e]; exact List.getElem_mem hj
    · intro hm
      obtain ⟨j, hj, e⟩ := List.getElem_of_mem hm
      refine ⟨j, hj, fun hji => ?_, e⟩
      subst hji
      exact hn (by rw [e])
  cases hg : getP O n with
  | some v => exact (hiff v).2 hg
  | none =>
    cases hg2 : getP (O.eraseIdx i) n with
    | none => rfl
    | some v => rw [(hiff v).1 hg2] at hg; cases hg
/-- To leave out a parameter that is what it would be changes nothing. -/
theorem told_pure {t ti : List UInt8} {P : List Prm} (h : codeO t ti P = 0) {i : Nat} (hi : i < (outO t ti P).length) (hb : codeO t ti ((outO t ti P).eraseIdx i) = 0)
    (hg : getP (outO t ti ((outO t ti P).eraseIdx i)) (outO t ti P)[i].1 = some (outO t ti P)[i].2) : outO t ti ((outO t ti P).eraseIdx i) = outO t ti P := by
  obtain ⟨h1, h2, h3, h4⟩ := codeO_ok h
  have hrO := full_rise h
  have hstO : getP (outO t ti P) nEnsure = some (stO t P) := by rw [h4]; exact st_out (good_ne h1 h3)
  obtain ⟨O, hO⟩ : ∃ O, outO t ti P = O := ⟨_, rfl⟩
  obtain ⟨st, hst⟩ : ∃ st, stO t P = st := ⟨_, rfl⟩
  rw [hst] at h4 hstO
  simp only [hO] at hi hb hg hrO h4 hstO ⊢
  obtain ⟨g1, g2, g3, g4⟩ := codeO_ok hb
  have hsb : stO t (O.eraseIdx i) = st := by
    by_cases hn : nEnsure = O[i].1
    · have e1 : O[i].2 = st := by
        have := getP_mem hrO (List.getElem_mem hi)
        rw [← hn, hstO] at this
        exact (Option.some.inj this).symm
      rw [e1, ← hn] at hg
      rw [g4] at hg
      rw [st_out (good_ne g1 g3)] at hg
      exact Option.some.inj hg
    · exact stO_of (by rw [getP_erase hrO hi hn]; exact hstO)
  rw [hsb] at g4
  rw [g4] at hg ⊢
  conv => rhs; rw [h4]
  unfold outP
  refine List.map_congr_left fun s hs => ?_
  by_cases hn : s.1 = O[i].1
  · rw [← hn, getP_outP (slots_rise _ _) hs] at hg
    have e0 := Option.some.inj hg
    have e1 : (getP P s.1).getD s.2 = O[i].2 := by
      have := getP_outP (P := P) (slots_rise (kindI t) st) hs
      rw [← h4, hn, getP_mem hrO (List.getElem_mem hi), ← hn] at this
      exact (Option.some.inj this).symm
    rw [e0, e1]
  · rw [getP_erase hrO hi hn]
    have := getP_outP (P := P) (slots_rise (kindI t) st) hs
    rw [← h4] at this
    rw [this]; rfl
theorem erase_take {O : List Prm} {i k : Nat} (hk : k < O.length) : (O.take (k + 1)).eraseIdx i = if k = i then (O.take k).eraseIdx i else (O.take k).eraseIdx i ++ [O[k]] := by
  rw [List.take_succ_eq_append_getElem hk]
  have hl : (O.take k).length = k := by rw [List.length_take]; omega
  by_cases e : k = i
  · subst e
    have e1 : (O.take k).eraseIdx k = O.take k := List.eraseIdx_of_length_le (by omega)
    rw [if_pos rfl, e1, List.eraseIdx_append_of_length_le (by omega), hl, Nat.sub_self]
    simp
  · rw [if_neg e]
    by_cases h : i < k
    · rw [List.eraseIdx_append_of_lt_length (by omega)]
    · rw [List.eraseIdx_append_of_length_le (by omega), List.eraseIdx_of_length_le (l := O.take k) (by omega)]
      rw [hl, List.eraseIdx_of_length_le (by simp; omega)]
end Go.Proofs.YtfofhnbijjocfaaGreatDoor
