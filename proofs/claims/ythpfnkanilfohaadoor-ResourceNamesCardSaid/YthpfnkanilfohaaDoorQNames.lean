/-
  Layer 6: the walk of ResourceNames.
  Conditions: those that each theorem states.
-/
import Derived.Test.YthpfnkanilfohaaDoorQShown
namespace Go.Proofs.YthpfnkanilfohaaDoor
open Go.RowKit Go.Maps

theorem names_pure (a b ca cb : List UInt8) : ∃ s1 s2 o1 o2 : Bool, decide (a = b) = s1 ∧ decide (ca = cb) = s2 ∧ lessR a b ca cb = o1 ∧ lessR b a cb ca = o2 ∧
    ((s1 = false ∧ o1 = true ∧ o2 = false) ∨ (s1 = false ∧ o1 = false ∧ o2 = true) ∨ (s1 = true ∧ s2 = false ∧ o1 = true ∧ o2 = false) ∨ (s1 = true ∧ s2 = false ∧ o1 = false ∧ o2 = true) ∨ (s1 = true ∧ s2 = true ∧ o1 = false ∧ o2 = false)) := by
  refine ⟨_, _, _, _, rfl, rfl, rfl, rfl, ?_⟩
  unfold lessR
  by_cases h : a = b
  · rw [if_pos h, if_pos h.symm, decide_eq_true h]
    by_cases h2 : ca = cb
    · subst h2
      rw [decide_eq_true rfl, less_irr]
      simp
    · rw [decide_eq_false h2]
      cases hl : lessB ca cb
      · have := less_tri cb ca
        rw [hl, decide_eq_false h2] at this
        rw [this]; simp
      · rw [less_asym hl]; simp
  · rw [if_neg h, if_neg (fun e => h e.symm), decide_eq_false h]
    cases hl : lessB a b
    · have := less_tri b a
      rw [hl, decide_eq_false h] at this
      rw [this]; simp
    · rw [less_asym hl]; simp

set_option maxRecDepth 100000 in
set_option maxHeartbeats 8000000 in
theorem names_core (a ca b cb n : List UInt8) (ao bo : Option Addr) (an ac bn bc : Nat) (P : List Prm) (s1 s2 o1 o2 : Bool) (w : World) (hp : PsIs w (.slice ao an ac) P) (ha : a.length ≤ 140737488355328) (hca : ca.length ≤ 140737488355328)
    (h1 : decide (a = b) = s1) (h2 : decide (ca = cb) = s2) (h3 : lessR a b ca cb = o1) (h4 : lessR b a cb ca = o2)
    (hh : (s1 = false ∧ o1 = true ∧ o2 = false) ∨ (s1 = false ∧ o1 = false ∧ o2 = true) ∨ (s1 = true ∧ s2 = false ∧ o1 = true ∧ o2 = false) ∨ (s1 = true ∧ s2 = false ∧ o1 = false ∧ o2 = true) ∨ (s1 = true ∧ s2 = true ∧ o1 = false ∧ o2 = false)) :
    Calls Tryd.prog 5 #[resV a ca (.slice ao an ac), resV b cb (.slice bo bn bc), .string (strL n)] w fun e w' => e = .returned (.bool true) ∧ Kept [] w w' := by
  have q1 : ((strL a).toList == (strL b).toList) = s1 := by rw [str_beqP, h1]
  have q2 : ((strL ca).toList == (strL cb).toList) = s2 := by rw [str_beqP, h2]
  have HL1 : Hid (∀ w', Calls Tryd.prog 16 #[.agg #[.string (strL a), .string (strL ca), .slice ao an ac], .agg #[.string (strL b), .string (strL cb), .slice bo bn bc]] w' fun e w2 => e = .returned (.bool o1) ∧ Kept [] w' w2) := fun w' => by rw [← h3]; exact sless_any a ca b cb ao bo an ac bn bc w'
  have HL2 : Hid (∀ w', Calls Tryd.prog 16 #[.agg #[.string (strL b), .string (strL cb), .slice bo bn bc], .agg #[.string (strL a), .string (strL ca), .slice ao an ac]] w' fun e w2 => e = .returned (.bool o2) ∧ Kept [] w' w2) := fun w' => by rw [← h4]; exact sless_any b cb a ca bo ao bn bc an ac w'
  have HL3 : Hid (∀ w', Calls Tryd.prog 19 #[.agg #[.string (strL a), .string (strL ca), .slice ao an ac], .agg #[.string (strL b), .string (strL cb), .slice bo bn bc]] w' fun e w2 => e = .returned (.bool o1) ∧ Kept [] w' w2) := fun w' => by rw [← h3]; exact rsless_any a ca b cb ao bo an ac bn bc w'
  obtain ⟨nm, hnm⟩ : ∃ nm, nameS a ca = nm := ⟨_, rfl⟩
  have HN1 : Hid (∀ w', Calls Tryd.prog 17 #[.agg #[.string (strL a), .string (strL ca), .slice ao an ac]] w' fun e w2 => e = .returned (.string nm) ∧ Kept [] w' w2) := fun w' => by rw [← hnm]; exact sname_any a ca ao an ac w' ha hca
  have HN2 : Hid (∀ w', Calls Tryd.prog 18 #[.agg #[.string (strL a), .string (strL ca), .slice ao an ac]] w' fun e w2 => e = .returned (.string nm) ∧ Kept [] w' w2) := fun w' => by rw [← hnm]; exact rsname_any a ca ao an ac w' ha hca
  obtain ⟨x, hx⟩ : ∃ x, getV P n = x := ⟨_, rfl⟩
  obtain ⟨bb, hbb⟩ : ∃ bb, getB P n = bb := ⟨_, rfl⟩
  have HG1 : Hid (∀ w', Kept [] w w' → Calls Tryd.prog 14 #[.agg #[.string (strL a), .string (strL ca), .slice ao an ac], .string (strL n)] w' fun e w2 => e = .returned (.tuple #[.string (strL x), .bool bb]) ∧ Kept [] w' w2) := fun w' hk => by
    rw [← hx, ← hbb]; exact sget_any a ca n P _ w' (hp.kept hk)
  have HG2 : Hid (∀ w', Kept [] w w' → Calls Tryd.prog 15 #[.agg #[.string (strL a), .string (strL ca), .slice ao an ac], .string (strL n)] w' fun e w2 => e = .returned (.tuple #[.string (strL x), .bool bb]) ∧ Kept [] w' w2) := fun w' hk => by
    rw [← hx, ← hbb]; exact rsget_any a ca n P _ w' (hp.kept hk)
  unfold resV
  obtain ⟨w2, hw2⟩ : ∃ w2, (w.alloc (.cells #[.string (strL a), .string (strL ca), .slice ao an ac] 24)).alloc (.cells #[.string (strL b), .string (strL cb), .slice bo bn bc] 24) = w2 := ⟨_, rfl⟩
  have HK : Hid (Kept [] w w2) := by rw [← hw2]; exact (Kept.alloc [] w _).trans (Kept.alloc [] _ _)
  have HA : Hid (w2.heap[w.heap.size]? = some (.cells #[.string (strL a), .string (strL ca), .slice ao an ac] 24)) := by
    show _ = _
    rw [← hw2]
    exact (Kept.alloc [] _ _).heap (by simp) (heap_alloc_last w _)
  have HB : Hid (w2.heap[w.heap.size + 1]? = some (.cells #[.string (strL b), .string (strL cb), .slice bo bn bc] 24)) := by
    show _ = _
    rw [← hw2]
    have := heap_alloc_last (w.alloc (.cells #[.string (strL a), .string (strL ca), .slice ao an ac] 24)) (.cells #[.string (strL b), .string (strL cb), .slice bo bn bc] 24)
    rwa [size_alloc] at this
  have FA : Hid (∀ w', Kept [] w2 w' → w'.cell? ⟨w.heap.size, 0, none⟩ = some (.string (strL a)) ∧ w'.cell? ⟨w.heap.size, 1, none⟩ = some (.string (strL ca)) ∧ w'.cell? ⟨w.heap.size, 2, none⟩ = some (.slice ao an ac) ∧
      w'.cell? ⟨w.heap.size + 1, 0, none⟩ = some (.string (strL b)) ∧ w'.cell? ⟨w.heap.size + 1, 1, none⟩ = some (.string (strL cb)) ∧ w'.cell? ⟨w.heap.size + 1, 2, none⟩ = some (.slice bo bn bc)) := fun w' hk => by
    have e0 := hk.heap (by simp) HA.out
    have e1 := hk.heap (by simp) HB.out
    exact ⟨cell_of_row _ _ 0 _ _ _ e0, cell_of_row _ _ 1 _ _ _ e0, cell_of_row _ _ 2 _ _ _ e0, cell_of_row _ _ 0 _ _ _ e1, cell_of_row _ _ 1 _ _ _ e1, cell_of_row _ _ 2 _ _ _ e1⟩
  clear h1 h2 h3 h4 hx hbb hnm hp
  go_enter Tryd.func5, Tryd.ntmps5
  go_wp2_with fail
  refine (shown6_any _).mono ?_
  rintro e w3 ⟨rfl, hk3⟩
  have HK3 := Lib.hid hk3
  clear hk3 hw2
  obtain ⟨a0, a1, a2, b0, b1, b2⟩ := FA.out w3 HK3.out
  go_wp2_with fail
  refine (HG1.out _ (HK.out.trans HK3.out)).mono ?_
  clear a0 a1 a2 b0 b1 b2
  rintro e w4 ⟨rfl, hk4⟩
  have HK4 : Hid (Kept [] w2 w4) := HK3.out.trans hk4
  clear hk4
  obtain ⟨a0, a1, a2, b0, b1, b2⟩ := FA.out w4 HK4.out
  go_wp2_with fail
  refine (HG2.out _ (HK.out.trans HK4.out)).mono ?_
  clear a0 a1 a2 b0 b1 b2
  rintro e w5 ⟨rfl, hk5⟩
  have HK5 : Hid (Kept [] w2 w5) := HK4.out.trans hk5
  clear hk5
  obtain ⟨a0, a1, a2, b0, b1, b2⟩ := FA.out w5 HK5.out
  go_wp2_with fail
  refine (HL1.out _).mono ?_
  clear a0 a1 a2 b0 b1 b2
  rintro e w6 ⟨rfl, hk6⟩
  have HK6 : Hid (Kept [] w2 w6) := HK5.out.trans hk6
  clear hk6
  obtain ⟨a0, a1, a2, b0, b1, b2⟩ := FA.out w6 HK6.out
  go_wp2_with fail
  refine (HL2.out _).mono ?_
  clear a0 a1 a2 b0 b1 b2
  rintro e w7 ⟨rfl, hk7⟩
  have HK7 : Hid (Kept [] w2 w7) := HK6.out.trans hk7
  clear hk7
  obtain ⟨a0, a1, a2, b0, b1, b2⟩ := FA.out w7 HK7.out
  have z0 : ∀ w', Kept [] w7.drew w' → w'.cell? ⟨w.heap.size, 0, none⟩ = some (.string (strL a)) := fun w' hk => (FA.out w' (HK7.out.trans ((Kept.drew [] _).trans hk))).1
  have z1 : ∀ w', Kept [] w7.drew w' → w'.cell? ⟨w.heap.size, 1, none⟩ = some (.string (strL ca)) := fun w' hk => (FA.out w' (HK7.out.trans ((Kept.drew [] _).trans hk))).2.1
  have z2 : ∀ w', Kept [] w7.drew w' → w'.cell? ⟨w.heap.size, 2, none⟩ = some (.slice ao an ac) := fun w' hk => (FA.out w' (HK7.out.trans ((Kept.drew [] _).trans hk))).2.2.1
  rcases hh with ⟨rfl, rfl, rfl⟩ | ⟨rfl, rfl, rfl⟩ | ⟨rfl, rfl, rfl, rfl⟩ | ⟨rfl, rfl, rfl, rfl⟩ | ⟨rfl, rfl, rfl, rfl⟩
  all_goals
    go_wp2_with fail
    clear a0 a1 a2 b0 b1 b2
    refine wp_region_ord [(true, 0), (true, 1), (true, 2), (true, 3), (true, 4), (true, 5), (true, 6), (true, 7), (true, 8), (true, 9), (true, 10), (true, 11), (true, 12), (true, 14), (false, 13), (false, 15), (true, 16), (true, 17), (true, 18), (true, 19), (true, 20), (true, 21), (false, 22), (true, 23), (true, 24), (true, 25), (true, 26), (true, 27), (true, 28), (true, 29), (true, 30), (true, 31), (true, 32), (true, 33), (true, 34), (true, 35), (true, 36), (true, 37), (true, 38), (true, 39), (true, 40), (true, 41)] [] (by kernel_rfl) (fun _ _ d _ _ h => by cases d <;> exact h) (by kernel_rfl) rfl (by kernel_rfl) (by kernel_rfl) ?_
    simp only [named, List.getD_cons_zero, List.getD_cons_succ]
    repeat (first | (apply wpGrow_take; (case hw => rfl); (case hv => intro w' hk; go_simp; with_reducible rfl); simp only [Act.put, List.setIfInBounds_toArray, List.set_cons_zero, List.set_cons_succ]) | (refine wpGrow_pass (by rfl) ?_; simp only [Act.put, List.setIfInBounds_toArray, List.set_cons_zero, List.set_cons_succ]) | (refine wpGrow_skip (by rfl) ?_; simp only [Act.put, List.setIfInBounds_toArray, List.set_cons_zero, List.set_cons_succ]))
    refine wpGrow_force (by rfl) (fun K hK => ?_)
    go_simp
    refine (HN1.out _).mono ?_
    rintro e w8 ⟨rfl, hk8⟩
    have HK8 : Hid (Kept [] w7.drew w8) := hk8
    refine hK _ _ hk8 ?_
    clear hK K hk8
    refine wpGrow_force (by rfl) (fun K hK => ?_)
    go_simp
    refine (HN2.out _).mono ?_
    rintro e w9 ⟨rfl, hk9⟩
    have HK9 : Hid (Kept [] w7.drew w9) := HK8.out.trans hk9
    refine hK _ _ hk9 ?_
    clear hK K hk9
    have y0 : ∀ w', Kept [] w9 w' → w'.cell? ⟨w.heap.size, 0, none⟩ = some (.string (strL a)) := fun w' hk => z0 w' (HK9.out.trans hk)
    have y1 : ∀ w', Kept [] w9 w' → w'.cell? ⟨w.heap.size, 1, none⟩ = some (.string (strL ca)) := fun w' hk => z1 w' (HK9.out.trans hk)
    have y2 : ∀ w', Kept [] w9 w' → w'.cell? ⟨w.heap.size, 2, none⟩ = some (.slice ao an ac) := fun w' hk => z2 w' (HK9.out.trans hk)
    have v0 : ∀ w', Kept [] w9 w' → w'.cell? ⟨w.heap.size + 1, 0, none⟩ = some (.string (strL b)) := fun w' hk => (FA.out w' (HK7.out.trans ((Kept.drew [] _).trans (HK9.out.trans hk)))).2.2.2.1
    have v1 : ∀ w', Kept [] w9 w' → w'.cell? ⟨w.heap.size + 1, 1, none⟩ = some (.string (strL cb)) := fun w' hk => (FA.out w' (HK7.out.trans ((Kept.drew [] _).trans (HK9.out.trans hk)))).2.2.2.2.1
    have v2 : ∀ w', Kept [] w9 w' → w'.cell? ⟨w.heap.size + 1, 2, none⟩ = some (.slice bo bn bc) := fun w' hk => (FA.out w' (HK7.out.trans ((Kept.drew [] _).trans (HK9.out.trans hk)))).2.2.2.2.2
    clear z0 z1 z2
    repeat (first | (apply wpGrow_take; (case hw => rfl); (case hv => intro w' hk; go_simp; with_reducible rfl); simp only [Act.put, List.setIfInBounds_toArray, List.set_cons_zero, List.set_cons_succ]) | (refine wpGrow_pass (by rfl) ?_; simp only [Act.put, List.setIfInBounds_toArray, List.set_cons_zero, List.set_cons_succ]) | (refine wpGrow_skip (by rfl) ?_; simp only [Act.put, List.setIfInBounds_toArray, List.set_cons_zero, List.set_cons_succ]))
    clear y0 y1 y2 v0 v1 v2
    refine wpGrow_force (by rfl) (fun K hK => ?_)
    go_simp
    refine (HL3.out _).mono ?_
    rintro e wa ⟨rfl, hka⟩
    have HKa : Hid (Kept [] w7.drew wa) := HK9.out.trans hka
    refine hK _ _ hka ?_
    clear hK K hka
    repeat (first | (apply wpGrow_take; (case hw => rfl); (case hv => intro w' hk; go_simp; with_reducible rfl); simp only [Act.put, List.setIfInBounds_toArray, List.set_cons_zero, List.set_cons_succ]) | (refine wpGrow_pass (by rfl) ?_; simp only [Act.put, List.setIfInBounds_toArray, List.set_cons_zero, List.set_cons_succ]) | (refine wpGrow_skip (by rfl) ?_; simp only [Act.put, List.setIfInBounds_toArray, List.set_cons_zero, List.set_cons_succ]))
    refine wpGrow_nil ?_
    go_wp2_with fail
    go_ret
    exact ⟨rfl, (HK.out.trans HK7.out).trans ((Kept.drew [] _).trans HKa.out)⟩

theorem names_walk (a ca b cb n : List UInt8) (ao bo : Option Addr) (an ac bn bc : Nat) (P : List Prm) (w : World) (hp : PsIs w (.slice ao an ac) P) (ha : a.length ≤ 140737488355328) (hca : ca.length ≤ 140737488355328) :
    Calls Tryd.prog 5 #[resV a ca (.slice ao an ac), resV b cb (.slice bo bn bc), .string (strL n)] w fun e w' => e = .returned (.bool true) ∧ Kept [] w w' := by
  obtain ⟨s1, s2, o1, o2, h1, h2, h3, h4, hh⟩ := names_pure a b ca cb
  exact names_core a ca b cb n ao bo an ac bn bc P s1 s2 o1 o2 w hp ha hca h1 h2 h3 h4 hh
end Go.Proofs.YthpfnkanilfohaaDoor
