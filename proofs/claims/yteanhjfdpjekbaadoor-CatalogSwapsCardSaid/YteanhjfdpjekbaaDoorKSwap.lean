/-
  Layer 7: two elements of a row exchanged; the walk of CatalogSwaps.
  Conditions: those that each theorem states.
-/
import Derived.Test.YteanhjfdpjekbaaDoorKShown
import Derived.Test.YteanhjfdpjekbaaDoorKLent
import Derived.Deep.DeepCutAuto
import Derived.BigQuiet
import Derived.StillTailTactics
namespace Go.Proofs.YteanhjfdpjekbaaDoor
open Go.RowKit Go.Maps
set_option maxRecDepth 100000

/-- Two elements of three cells each, exchanged in a row. -/
theorem swap_row {w w' : World} {g o n i k : Nat} {t : TypeId} {cur : Array Value} {L L' : List Value} {x0 x1 x2 y0 y1 y2 : Value} (ho : o = 0) (hg : w.heap[g]? = some (.cells cur t)) (htk : cur.toList.take (n * 3) = L) (hl : L.length = n * 3) (hl' : L'.length = n * 3) (hi : i < n) (hk : k < n) (hne : i ≠ k)
    (a0 : L'[3 * i]? = some x0) (a1 : L'[3 * i + 1]? = some x1) (a2 : L'[3 * i + 2]? = some x2) (b0 : L'[3 * k]? = some y0) (b1 : L'[3 * k + 1]? = some y1) (b2 : L'[3 * k + 2]? = some y2)
    (hO : ∀ q, q / 3 ≠ i → q / 3 ≠ k → L'[q]? = L[q]?)
    (hw : w' = (((((w.setCell ⟨g, o + i * 3, none⟩ x0).setCell ⟨g, o + i * 3 + 1, none⟩ x1).setCell ⟨g, o + i * 3 + 2, none⟩ x2).setCell ⟨g, o + k * 3, none⟩ y0).setCell ⟨g, o + k * 3 + 1, none⟩ y1).setCell ⟨g, o + k * 3 + 2, none⟩ y2) :
    w'.rangeAt g o L' := by
  subst ho hw
  have hsz : n * 3 ≤ cur.size := by
    have := congrArg List.length htk
    simp at this
    omega
  have hr := row_setCell (row_setCell (row_setCell (row_setCell (row_setCell (row_setCell hg (0 + i * 3) x0) (0 + i * 3 + 1) x1) (0 + i * 3 + 2) x2) (0 + k * 3) y0) (0 + k * 3 + 1) y1) (0 + k * 3 + 2) y2
  intro q u hu
  have hq : q < n * 3 := by rw [← hl']; exact (List.getElem?_eq_some_iff.1 hu).1
  rw [show 0 + q = q from Nat.zero_add q, cell_of_row _ _ q _ _ _ hr]
  simp only [Array.getElem?_setIfInBounds, Array.size_setIfInBounds, Nat.zero_add]
  rcases (by omega : q = 3 * i ∨ q = 3 * i + 1 ∨ q = 3 * i + 2 ∨ q = 3 * k ∨ q = 3 * k + 1 ∨ q = 3 * k + 2 ∨ (q / 3 ≠ i ∧ q / 3 ≠ k)) with e | e | e | e | e | e | ⟨e1, e2⟩
  · subst e
    rw [if_neg (by omega), if_neg (by omega), if_neg (by omega), if_neg (by omega), if_neg (by omega), if_pos (by omega), if_pos (by omega), ← a0]
    exact hu
  · subst e
    rw [if_neg (by omega), if_neg (by omega), if_neg (by omega), if_neg (by omega), if_pos (by omega), if_pos (by omega), ← a1]
    exact hu
  · subst e
    rw [if_neg (by omega), if_neg (by omega), if_neg (by omega), if_pos (by omega), if_pos (by omega), ← a2]
    exact hu
  · subst e
    rw [if_neg (by omega), if_neg (by omega), if_pos (by omega), if_pos (by omega), ← b0]
    exact hu
  · subst e
    rw [if_neg (by omega), if_pos (by omega), if_pos (by omega), ← b1]
    exact hu
  · subst e
    rw [if_pos (by omega), if_pos (by omega), ← b2]
    exact hu
  · rw [if_neg (by omega), if_neg (by omega), if_neg (by omega), if_neg (by omega), if_neg (by omega), if_neg (by omega)]
    rw [hO q e1 e2, ← htk, List.getElem?_take_of_lt hq] at hu
    simpa using hu

theorem swapL_get {α : Type} (R : List α) (i k : Nat) (hi : i < R.length) (hk : k < R.length) (j : Nat) (hj : j < (swapL R i k hi hk).length) (hj' : j < R.length) (h1 : j ≠ i) (h2 : j ≠ k) : (swapL R i k hi hk)[j] = R[j] := by
  simp only [swapL]
  rw [List.getElem_set_ne (by omega), List.getElem_set_ne (by omega)]
theorem swapL_all {α : Type} {p : α → Prop} (R : List α) (i k : Nat) (hi : i < R.length) (hk : k < R.length) (hp : ∀ x ∈ R, p x) : ∀ x ∈ swapL R i k hi hk, p x := by
  intro x hx
  simp only [swapL] at hx
  rcases List.mem_or_eq_of_mem_set hx with h | h
  · rcases List.mem_or_eq_of_mem_set h with h | h
    · exact hp x h
    · rw [h]; exact hp _ (List.getElem_mem hk)
  · rw [h]; exact hp _ (List.getElem_mem hi)
theorem AllP.swapped {w : World} {vs : List Value} {l : List Res} (h : AllP w vs l) (i k : Nat) (hi : i < l.length) (hk : k < l.length) (hi' : i < vs.length) (hk' : k < vs.length) (hne : i ≠ k) : AllP w (swapL vs i k hi' hk') (swapL l i k hi hk) := by
  refine ⟨by rw [swapL_len, swapL_len, h.1], fun j hj hv => ?_⟩
  have hjl : j < l.length := by rw [swapL_len] at hj; exact hj
  have hjv : j < vs.length := by rw [swapL_len] at hv; exact hv
  by_cases e1 : j = i
  · subst e1
    rw [swapL_i l j k hi hk hne, swapL_i vs j k hi' hk' hne]
    exact h.2 k hk hk'
  by_cases e2 : j = k
  · subst e2
    rw [swapL_k l i j hi hk, swapL_k vs i j hi' hk']
    exact h.2 i hi hi'
  rw [swapL_get l i k hi hk j hj hjl e1 e2, swapL_get vs i k hi' hk' j hv hjv e1 e2]
  exact h.2 j hjl hjv

/-- Resources of the call's own, laid open. -/
theorem OwnR.openR {base : Nat} {w : World} {v : Value} {l : List Res} (h : OwnR base w v l) (hl : 0 < l.length) :
    ∃ g o cap cur vs, v = .slice (some ⟨g, o, none⟩) l.length cap ∧ o = 0 ∧ base ≤ g ∧ w.heap[g]? = some (.cells cur 32) ∧ cur.toList.take (l.length * 3) = rcv l vs ∧ l.length ≤ cap ∧ cap ≤ 9223372036854775807 ∧ AllP w vs l ∧ (∀ x ∈ vs, OffP [g] x) := by
  obtain ⟨⟨vs, h1, h3, h6, _⟩, h4, h5⟩ := h
  obtain ⟨h1, ⟨rfl, h2⟩ | ⟨g, cap, cur, rfl, hb, hg, hc1, hc2, hcs, htk⟩⟩ := h1
  · omega
  · exact ⟨g, 0, cap, cur, vs, rfl, rfl, hb, hg, htk, hc1, by unfold maxLen at hc2; omega, h3, by simpa [Value.ownBlock] using h6⟩
theorem OwnE.openE {base : Nat} {w : World} {v : Value} {l : List Edg} (h : OwnE base w v l) (hl : 0 < l.length) :
    ∃ g o cap cur, v = .slice (some ⟨g, o, none⟩) l.length cap ∧ o = 0 ∧ base ≤ g ∧ w.heap[g]? = some (.cells cur 43) ∧ cur.toList.take (l.length * 3) = ecv l ∧ l.length ≤ cap ∧ cap ≤ 9223372036854775807 := by
  obtain ⟨⟨h1, ⟨rfl, h2⟩ | ⟨g, cap, cur, rfl, hb, hg, hc1, hc2, hcs, htk⟩⟩, h4⟩ := h
  · omega
  · exact ⟨g, 0, cap, cur, rfl, rfl, hb, hg, htk, hc1, by unfold maxLen at hc2; omega⟩
/-- The edges' row is no row of resources, the resources' row is none of edges. -/
theorem OwnE.off {base : Nat} {w : World} {v : Value} {l : List Edg} (h : OwnE base w v l) {g : Nat} {cur : Array Value} (hg : w.heap[g]? = some (.cells cur 32)) : ∀ k, v.ownBlock = some k → k ∉ [g] := by
  obtain ⟨⟨h1, ⟨rfl, h2⟩ | ⟨g', cap, cur', rfl, hb, hg', hc1, hc2, hcs, htk⟩⟩, h4⟩ := h
  · intro k hk
    simp [Value.ownBlock] at hk
  · intro k hk hm
    simp [Value.ownBlock] at hk
    simp at hm
    subst hk hm
    rw [hg'] at hg
    injection hg with hg
    injection hg with _ ht
    exact absurd ht (by decide)
/-- A row's cells. -/
theorem row_at {w : World} {g o n : Nat} {t : TypeId} {cur : Array Value} {L : List Value} (ho : o = 0) (hg : w.heap[g]? = some (.cells cur t)) (htk : cur.toList.take (n * 3) = L) {q q' : Nat} {u : Value} (hq : q < n * 3) (hq' : q' = o + q) (h : L[q]? = some u) : w.cell? ⟨g, q', none⟩ = some u := by
  subst ho hq'
  rw [Nat.zero_add, cell_of_row _ _ q _ _ _ hg]
  rw [← htk, List.getElem?_take_of_lt hq] at h
  simpa using h

/-- Half way: the other element is as it was. -/
theorem swap_mid {wd wA : World} {g a q : Nat} {t : TypeId} {cur : Array Value} {x0 x1 x2 u : Value} (hg : wd.heap[g]? = some (.cells cur t)) (hA : wA = ((wd.setCell ⟨g, a, none⟩ x0).setCell ⟨g, a + 1, none⟩ x1).setCell ⟨g, a + 2, none⟩ x2) (h0 : a ≠ q) (h1 : a + 1 ≠ q) (h2 : a + 2 ≠ q) (h : wd.cell? ⟨g, q, none⟩ = some u) :
    wA.cell? ⟨g, q, none⟩ = some u := by
  have hr := row_setCell (row_setCell (row_setCell hg a x0) (a + 1) x1) (a + 2) x2
  rw [hA, cell_of_row _ _ q _ _ _ hr]
  simp only [Array.getElem?_setIfInBounds]
  rw [if_neg h2, if_neg h1, if_neg h0, ← cell_of_row _ _ q _ _ _ hg]
  exact h
theorem swap_fz {wd wA : World} {g a : Nat} {t : TypeId} {cur : Array Value} {x0 x1 x2 : Value} (hg : wd.heap[g]? = some (.cells cur t)) (hA : wA = ((wd.setCell ⟨g, a, none⟩ x0).setCell ⟨g, a + 1, none⟩ x1).setCell ⟨g, a + 2, none⟩ x2) (q : Nat) : wA.frozen? ⟨g, q, none⟩ = false := by
  rw [hA]
  exact frozen_of_row _ _ q _ _ (row_setCell (row_setCell (row_setCell hg a x0) (a + 1) x1) (a + 2) x2)

/-- The resources exchanged, in memory. -/
theorem swapR_is {w w' : World} {g o cap i k : Nat} {cur : Array Value} {R : List Res} {vs : List Value} (hi : i < R.length) (hk : k < R.length) (hi' : i < vs.length) (hk' : k < vs.length) (hne : i ≠ k) (ho : o = 0) (hg : w.heap[g]? = some (.cells cur 32)) (htk : cur.toList.take (R.length * 3) = rcv R vs)
    (hcap : R.length ≤ cap) (h63 : cap ≤ 9223372036854775807) (hP : AllP w vs R) (hoff : ∀ x ∈ vs, OffP [g] x) (hb : R.length * 56 ≤ 140737488355328) (ht : ∀ r ∈ R, r.t.length ≤ 140737488355328 ∧ r.ti.length ≤ 140737488355328) (hkw : Kept [g] w w')
    (hw : w' = (((((w.setCell ⟨g, o + i * 3, none⟩ (.string (strL R[k].t))).setCell ⟨g, o + i * 3 + 1, none⟩ (.string (strL R[k].ti))).setCell ⟨g, o + i * 3 + 2, none⟩ vs[k]).setCell ⟨g, o + k * 3, none⟩ (.string (strL R[i].t))).setCell ⟨g, o + k * 3 + 1, none⟩ (.string (strL R[i].ti))).setCell ⟨g, o + k * 3 + 2, none⟩ vs[i]) :
    RsIs w' (.slice (some ⟨g, o, none⟩) R.length cap) (swapL R i k hi hk) := by
  have hlen := swapL_len R i k hi hk
  have hlv := swapL_len vs i k hi' hk'
  have hvl : (swapL vs i k hi' hk').length = (swapL R i k hi hk).length := by rw [hlen, hlv, hP.1]
  have hgs : g < w'.heap.size := Nat.lt_of_lt_of_le (Array.getElem?_eq_some_iff.1 hg).1 hkw.size
  have hrange : w'.rangeAt g o (rcv (swapL R i k hi hk) (swapL vs i k hi' hk')) := by
    refine swap_row (n := R.length) (i := i) (k := k) ho hg htk (by rw [rcv_length _ _ hP.1]; omega) (by rw [rcv_length _ _ hvl, hlen]; omega) hi hk hne ?_ ?_ ?_ ?_ ?_ ?_ ?_ hw
    · rw [rcv_get0 _ _ hvl i (by omega), swapL_i R i k hi hk hne]
    · rw [rcv_get1 _ _ hvl i (by omega), swapL_i R i k hi hk hne]
    · rw [rcv_get2 _ _ hvl i (by omega), List.getElem?_eq_getElem (by omega), swapL_i vs i k hi' hk' hne]
    · rw [rcv_get0 _ _ hvl k (by omega), swapL_k R i k hi hk]
    · rw [rcv_get1 _ _ hvl k (by omega), swapL_k R i k hi hk]
    · rw [rcv_get2 _ _ hvl k (by omega), List.getElem?_eq_getElem (by omega), swapL_k vs i k hi' hk']
    · intro q h1 h2
      by_cases hq : q / 3 < R.length
      · have hqs : q / 3 < (swapL R i k hi hk).length := by omega
        have hqv : q / 3 < vs.length := by rw [hP.1]; exact hq
        rcases (by omega : q = 3 * (q / 3) ∨ q = 3 * (q / 3) + 1 ∨ q = 3 * (q / 3) + 2) with e | e | e
        · rw [e, rcv_get0 _ _ hvl _ hqs, rcv_get0 _ _ hP.1 _ hq, swapL_get R i k hi hk _ hqs hq h1 h2]
        · rw [e, rcv_get1 _ _ hvl _ hqs, rcv_get1 _ _ hP.1 _ hq, swapL_get R i k hi hk _ hqs hq h1 h2]
        · rw [e, rcv_get2 _ _ hvl _ hqs, rcv_get2 _ _ hP.1 _ hq, List.getElem?_eq_getElem (by omega), List.getElem?_eq_getElem hqv, swapL_get vs i k hi' hk' _ (by omega) hqv h1 h2]
      · rw [List.getElem?_eq_none (by rw [rcv_length _ _ hvl, hlen]; omega), List.getElem?_eq_none (by rw [rcv_length _ _ hP.1]; omega)]
  refine ⟨⟨some ⟨g, o, none⟩, cap, swapL vs i k hi' hk', by rw [hlen], by rw [hlen]; exact hcap, h63, fun e => (by cases e), (hP.keptX hkw hoff).swapped i k hi hk hi' hk' hne, .inr ⟨g, o, rfl, hgs, hrange⟩⟩, by rw [hlen]; exact hb, swapL_all R i k hi hk ht⟩

/-- The edges exchanged, in memory. -/
theorem swapE_is {w w' : World} {g o cap i k : Nat} {cur : Array Value} {E : List Edg} (hi : i < E.length) (hk : k < E.length) (hne : i ≠ k) (ho : o = 0) (hg : w.heap[g]? = some (.cells cur 43)) (htk : cur.toList.take (E.length * 3) = ecv E)
    (hcap : E.length ≤ cap) (h63 : cap ≤ 9223372036854775807) (hb : E.length * 24 ≤ 140737488355328) (hkw : Kept [g] w w')
    (hw : w' = (((((w.setCell ⟨g, o + i * 3, none⟩ (.int .i64 E[k].fr)).setCell ⟨g, o + i * 3 + 1, none⟩ (.int .i64 E[k].tw)).setCell ⟨g, o + i * 3 + 2, none⟩ (.bool E[k].nt)).setCell ⟨g, o + k * 3, none⟩ (.int .i64 E[i].fr)).setCell ⟨g, o + k * 3 + 1, none⟩ (.int .i64 E[i].tw)).setCell ⟨g, o + k * 3 + 2, none⟩ (.bool E[i].nt)) :
    EsIs w' (.slice (some ⟨g, o, none⟩) E.length cap) (swapL E i k hi hk) := by
  have hlen := swapL_len E i k hi hk
  have hgs : g < w'.heap.size := Nat.lt_of_lt_of_le (Array.getElem?_eq_some_iff.1 hg).1 hkw.size
  have hI := ecv_get (swapL E i k hi hk) i (by omega)
  have hK := ecv_get (swapL E i k hi hk) k (by omega)
  rw [swapL_i E i k hi hk hne] at hI
  rw [swapL_k E i k hi hk] at hK
  have hrange : w'.rangeAt g o (ecv (swapL E i k hi hk)) := by
    refine swap_row (n := E.length) (i := i) (k := k) ho hg htk (by rw [ecv_length]; omega) (by rw [ecv_length, hlen]; omega) hi hk hne hI.1 hI.2.1 hI.2.2 hK.1 hK.2.1 hK.2.2 ?_ hw
    intro q h1 h2
    by_cases hq : q / 3 < E.length
    · have hqs : q / 3 < (swapL E i k hi hk).length := by omega
      have hA := ecv_get (swapL E i k hi hk) (q / 3) hqs
      have hB := ecv_get E (q / 3) hq
      rw [swapL_get E i k hi hk _ hqs hq h1 h2] at hA
      rcases (by omega : q = 3 * (q / 3) ∨ q = 3 * (q / 3) + 1 ∨ q = 3 * (q / 3) + 2) with e | e | e
      · rw [e, hA.1, hB.1]
      · rw [e, hA.2.1, hB.2.1]
      · rw [e, hA.2.2, hB.2.2]
    · rw [List.getElem?_eq_none (by rw [ecv_length, hlen]; omega), List.getElem?_eq_none (by rw [ecv_length]; omega)]
  exact ⟨⟨some ⟨g, o, none⟩, cap, by rw [hlen], by rw [hlen]; exact hcap, h63, fun e => (by cases e), .inr ⟨g, o, rfl, hgs, hrange⟩⟩, by rw [hlen]; exact hb⟩
end Go.Proofs.YteanhjfdpjekbaaDoor
