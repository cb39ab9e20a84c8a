/-
  A group that a statement makes, write by write.
  Conditions: those that each theorem states.
-/
import Derived.Test.YtmckapfncnoddaaSame
namespace Go.Proofs.Ytmckapfncnoddaa
open Go.RowKit Go.Maps

structure OwnPuts (w : World) (base : Nat) (v : Value) (l : List PutL) (xs : List Value) : Prop where
  own : w.ownsRow base 54 2 v l.length xs
  some_ : v.ownBlock ≠ none
  each : ∀ k (hk : k < l.length), ∃ s, xs[k * 2]? = some (.int .i64 l[k].1) ∧ xs[k * 2 + 1]? = some (.slice (some ⟨s, 0, none⟩) 64 64) ∧ w.heap[s]? = some (.cells (bvA l[k].2) 5) ∧ l[k].2.length = 64 ∧ 0 ≤ l[k].1 ∧ l[k].1 < 4096

theorem OwnPuts.shape {w : World} {base : Nat} {v : Value} {l : List PutL} {xs : List Value} (h : OwnPuts w base v l xs) : ∃ g cap cur, v = .slice (some ⟨g, 0, none⟩) l.length cap ∧ base ≤ g ∧ w.heap[g]? = some (.cells cur 54) ∧ cur.toList.take (l.length * 2) = xs := by
  obtain ⟨h1, ⟨rfl, h2⟩ | ⟨g, cap, cur, rfl, hb, hg, hc1, hc2, hcs, htk⟩⟩ := h.own
  · exact absurd rfl h.some_
  · exact ⟨g, cap, cur, rfl, hb, hg, htk⟩

theorem OwnPuts.puts {w : World} {base : Nat} {l : List PutL} {xs : List Value} {v : Value} (h : OwnPuts w base v l xs) (hl : l.length ≤ 4096) : ∃ ao cap, v = .slice ao l.length cap ∧ PutsIs w ao l.length l := by
  obtain ⟨g, cap, cur, rfl, hb, hg, htk⟩ := h.shape
  refine ⟨_, cap, rfl, rfl, by omega, fun _ => ⟨g, 0, rfl, fun k hk => ?_⟩⟩
  obtain ⟨s, e1, e2, e3, e4, e5, e6⟩ := h.each k hk
  rw [← htk, List.getElem?_take_of_lt (by omega)] at e1 e2
  refine ⟨some ⟨s, 0, none⟩, 64, 64, ?_, ?_, (.inl (slIs_row e3 64 64 e4)), by omega, by omega, by omega⟩
  · rw [cell_of_row w g _ _ _ _ hg, Nat.zero_add]; simpa using e1
  · rw [cell_of_row w g _ _ _ _ hg, Nat.zero_add]; simpa using e2

theorem OwnPuts.kept {w w' : World} {base : Nat} {v : Value} {l : List PutL} {xs : List Value} (h : OwnPuts w base v l xs) {ex : List Nat} (hk : Kept ex w w') (hx : ∀ b ∈ ex, ∀ cs t, w.heap[b]? = some (.cells cs t) → t ≠ 54 ∧ t ≠ 5) : OwnPuts w' base v l xs := by
  obtain ⟨h1, ⟨rfl, h2⟩ | ⟨g, cap, cur, rfl, hb, hg, hc1, hc2, hcs, htk⟩⟩ := h.own
  · exact absurd rfl h.some_
  · refine ⟨⟨h1, .inr ⟨g, cap, cur, rfl, hb, hk.heap (fun hm => (hx g hm _ _ hg).1 rfl) hg, hc1, hc2, hcs, htk⟩⟩, h.some_, fun k hk' => ?_⟩
    obtain ⟨s, e1, e2, e3, e4⟩ := h.each k hk'
    exact ⟨s, e1, e2, hk.heap (fun hm => (hx s hm _ _ e3).2 rfl) e3, e4⟩

theorem OwnPuts.start (w : World) : OwnPuts (w.alloc (.cells #[] 54)) w.heap.size (.slice (some ⟨w.heap.size, 0, none⟩) 0 0) [] [] :=
  ⟨⟨by simp, .inr ⟨w.heap.size, 0, #[], rfl, Nat.le_refl _, heap_alloc_last _ _, by simp, by unfold maxLen; omega, by simp, by simp⟩⟩, by simp [Value.ownBlock], fun k hk => by simp at hk⟩

theorem OwnPuts.lt {w : World} {base : Nat} {v : Value} {l : List PutL} {xs : List Value} (h : OwnPuts w base v l xs) : ∀ q ∈ v.ownBlock.toList, base ≤ q := fun q hq => (h.own.lt q (by simpa using hq)).1

theorem OwnPuts.append {w : World} {base : Nat} {v : Value} {l : List PutL} {xs : List Value} (h : OwnPuts w base v l xs) (p : Int) (b : List UInt8) (s t : Nat) (hs : w.heap[s]? = some (.cells (bvA b) 5)) (h64 : b.length = 64)
    (ht : w.heap[t]? = some (.cells #[.int .i64 p, .slice (some ⟨s, 0, none⟩) 64 64] 54)) (hbase : base ≤ w.heap.size) (hl : l.length ≤ 4095) (hp0 : 0 ≤ p) (hp1 : p < 4096) :
    ∃ v' w' xs', (Builtin.append_ #[32, 32] 32 #[v, .slice (some ⟨t, 0, none⟩) 1 1]).run Try.prog w = .ok v' w' ∧ OwnPuts w' base v' (l ++ [(p, b)]) xs' ∧ Kept v.ownBlock.toList w w' := by
  obtain ⟨i, hi', hz, hsz, hby⟩ := info_parts infoPut
  obtain ⟨v', w', hrun, hown, hgr, hiff⟩ := run_append_own (P := Try.prog) w base 32 32 54 i _ 2 32 Try.underlying32 hi' hz hsz hby rfl (by omega) v l.length xs h.own ⟨t, 0, none⟩ 1 1 [.int .i64 p, .slice (some ⟨s, 0, none⟩) 64 64] (by simp)
    (fun q x hx => by
      rw [Addr.add_mid, cell_of_row w t _ _ _ _ ht, Nat.zero_add]
      simpa using hx) (fun x hx => by simp at hx; rcases hx with rfl | rfl <;> rfl) (by unfold maxLen; omega) (by omega) hbase
  have hk : Kept v.ownBlock.toList w w' := Kept.grown hgr (fun q hq => by simp [hq])
  refine ⟨v', w', _, hrun, ⟨by rw [List.length_append]; exact hown, ?_, fun k hk' => ?_⟩, hk⟩
  · obtain ⟨h1, ⟨rfl, h2⟩ | ⟨g, cap, cur, rfl, _⟩⟩ := hown
    · simp at h2
    · simp [Value.ownBlock]
  · have hxl : xs.length = l.length * 2 := h.own.1
    have hne : ∀ {q : Nat} {L : List UInt8}, w.heap[q]? = some (.cells (bvA L) 5) → q ∉ v.ownBlock.toList := fun {q L} hq hm => by
      obtain ⟨g, cap, cur, rfl, _, hg, _⟩ := h.shape
      simp [Value.ownBlock] at hm
      subst hm
      rw [hg] at hq
      simp at hq
    by_cases hq : k < l.length
    · obtain ⟨s', e1, e2, e3, e4, e5, e6⟩ := h.each k hq
      rw [List.getElem_append_left hq]
      exact ⟨s', by rw [List.getElem?_append_left (by omega)]; exact e1, by rw [List.getElem?_append_left (by omega)]; exact e2, hk.heap (hne e3) e3, e4, e5, e6⟩
    · obtain rfl : k = l.length := by simp at hk'; omega
      rw [List.getElem_append_right (by omega)]
      simp only [Nat.sub_self, List.getElem_cons_zero]
      refine ⟨s, ?_, ?_, hk.heap (hne hs) hs, h64, hp0, hp1⟩
      · rw [List.getElem?_append_right (by omega), hxl]; simp
      · rw [List.getElem?_append_right (by omega), hxl]; simp
end Go.Proofs.Ytmckapfncnoddaa
