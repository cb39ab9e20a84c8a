/-
  Layer 8: the document's examples.
  Conditions: those that each theorem states.
-/
import Derived.Test.YtpdngekolhcndaaGShown
namespace Go.Proofs.Ytpdngekolhcndaa
open Go.RowKit Go.Maps

def ex1 : List Edg := [⟨2, 0, false⟩]
def ex2 : List Edg := [⟨0, 1, false⟩, ⟨1, 0, false⟩]
def ex4 : List Edg := [⟨0, 1, false⟩, ⟨1, 3, false⟩]
theorem ex1_e : ordE 3 ex1 = 0 := by decide +kernel
theorem ex1_l : ordL 3 ex1 = [1, 2, 0] := by decide +kernel
theorem ex2_e : ordE 2 ex2 = 80 := by decide +kernel
theorem ex3_e : ordE 33 [] = 1 := by decide +kernel
theorem ex2_c {c : List Nat} (h : Cyc (adjL ex2) c) (hl : ∀ i ∈ c, i < 2) : c.length = 2 := by
  have h1 := nodup_le h.nodup hl
  have h2 := h.ne
  by_cases e : c.length = 1
  · have h3 := h.next 0 h2
    simp only [e] at h3
    have h4 : ∀ i, i < 2 → adjL ex2 i i = false := by decide +kernel
    have := h4 _ (hl _ (List.getElem_mem h2))
    simp only [show (0 + 1) % 1 = 0 from rfl] at h3
    rw [this] at h3
    cases h3
  · omega
theorem ex4_b : behL 4 ex4 0 = [1, 3] := by
  have hz := behL_is (n := 4) (L := ex4) (s := 0) (by decide +kernel) (by decide) (Z := fun j => decide (j = 1) || decide (j = 3)) (reach_is (fun j hj => ?_) (fun j hj => ?_) (fun x j hx hj => ?_))
  · have := hz
    rw [show ((0 : Nat) : Int) = 0 from rfl] at this
    rw [this]
    decide +kernel
  · simp at hj
    rcases hj with rfl | rfl
    · exact .one (by decide +kernel)
    · exact .more (j := 1) (.one (by decide +kernel)) (by decide +kernel)
  · obtain ⟨x, hx, e1, e2⟩ := adjL_iff.1 hj
    simp [ex4] at hx
    rcases hx with rfl | rfl
    · simp at e2; simp; omega
    · simp at e1
  · obtain ⟨y, hy, e1, e2⟩ := adjL_iff.1 hj
    simp [ex4] at hy
    rcases hy with rfl | rfl
    · simp at e2; simp; omega
    · simp at e2; simp; omega

set_option maxRecDepth 100000 in
set_option maxHeartbeats 4000000 in
theorem shown8_any (w : World) : Calls Try.prog 8 #[] w fun e w' => e = .returned (.bool true) ∧ Kept [] w w' := by
  go_enter Try.func8, Try.ntmps8
  go_wp2_with fail
  generalize hw1 : World.alloc w _ = w1
  have HK1 : Hid (Kept [] w w1) := by rw [← hw1]; exact Kept.alloc _ _ _
  have HE1 : EsIs w1 (.slice (some ⟨w.heap.size, 0, none⟩) 1 1) ex1 := by rw [← hw1]; exact EsIs.made w ex1 (by decide) 1 rfl
  clear hw1
  refine (order_any 3 ex1 _ w1 HE1).mono ?_
  rintro e w2 ⟨va, vx, cx, rfl, H2⟩
  rw [ex1_e]
  have HA2 : Hid (NsIs w2 va [1, 2, 0] ∧ Kept [] w w2) := by have := H2.out.1; rw [ex1_l] at this; exact ⟨this, HK1.out.trans H2.out.2.2.2.2⟩
  clear H2 HE1
  go_wp2_with fail
  generalize hw3 : World.alloc w2 _ = w3
  have HK3 : Hid (Kept [] w2 w3) := by rw [← hw3]; exact Kept.alloc _ _ _
  have HE3 : EsIs w3 (.slice (some ⟨w2.heap.size, 0, none⟩) 2 2) ex2 := by rw [← hw3]; exact EsIs.made w2 ex2 (by decide) 2 rfl
  clear hw3
  refine (order_any 2 ex2 _ w3 HE3).mono ?_
  rintro e w4 ⟨vy, vc, c, rfl, H4⟩
  rw [ex2_e]
  have HK4 : Hid (Kept [] w2 w4) := HK3.out.trans H4.out.2.2.2.2
  have hcl : ∃ ao cap, vc = .slice ao 2 cap := by
    obtain ⟨ao, cap, e, _⟩ := H4.out.2.1.open
    obtain ⟨k1, k2⟩ := H4.out.2.2.2.1 ex2_e
    rw [ex2_c k1 k2] at e
    exact ⟨ao, cap, e⟩
  obtain ⟨ac, cc, rfl⟩ := hcl
  clear H4 HE3
  go_wp2_with fail
  refine (order_any 33 [] _ w4 (EsIs.nil _)).mono ?_
  rintro e w5 ⟨v1, v2, c2, rfl, H5⟩
  rw [ex3_e]
  have HK5 : Hid (Kept [] w2 w5) := HK4.out.trans H5.out.2.2.2.2
  clear H5
  go_wp2_with fail
  generalize hw6 : World.alloc w5 _ = w6
  have HK6 : Hid (Kept [] w2 w6) := by rw [← hw6]; exact HK5.out.trans (Kept.alloc _ _ _)
  have HE6 : EsIs w6 (.slice (some ⟨w5.heap.size, 0, none⟩) 2 2) ex4 := by rw [← hw6]; exact EsIs.made w5 ex4 (by decide) 2 rfl
  clear hw6
  refine (behind_any 4 ex4 0 _ w6 HE6).mono ?_
  rintro e w7 ⟨vb, rfl, H7⟩
  have HB7 : Hid (NsIs w7 vb [1, 3] ∧ Kept [] w2 w7) := by have := H7.out.1; rw [ex4_b] at this; exact ⟨this, HK6.out.trans H7.out.2⟩
  clear H7 HE6
  go_wp2_with fail
  generalize hw8 : World.alloc w7 _ = w8
  have HK8 : Hid (Kept [] w7 w8) := by rw [← hw8]; exact Kept.alloc _ _ _
  have hn8 : NsIs w8 (.slice (some ⟨w7.heap.size, 0, none⟩) 3 3) [1, 2, 0] := by rw [← hw8]; exact NsIs.made w7 [1, 2, 0] (by decide) 3 rfl
  clear hw8
  refine (ints_any _ _ _ _ w8 (HA2.out.1.kept (HB7.out.2.trans HK8.out)) hn8).mono ?_
  rintro e w9 ⟨rfl, hk9⟩
  have HK9 : Hid (Kept [] w7 w9) := HK8.out.trans hk9
  have d1 : decide ([1, 2, 0] = [1, 2, 0]) = true := by decide
  clear hk9 hn8
  go_wp2_with fail
  generalize hw10 : World.alloc w9 _ = w10
  have HK10 : Hid (Kept [] w7 w10) := by rw [← hw10]; exact HK9.out.trans (Kept.alloc _ _ _)
  have hn10 : NsIs w10 (.slice (some ⟨w9.heap.size, 0, none⟩) 2 2) [1, 3] := by rw [← hw10]; exact NsIs.made w9 [1, 3] (by decide) 2 rfl
  clear hw10
  refine (ints_any _ _ _ _ w10 (HB7.out.1.kept HK10.out) hn10).mono ?_
  rintro e w11 ⟨rfl, hk11⟩
  have HK11 : Hid (Kept [] w w11) := ((HA2.out.2.trans HB7.out.2).trans HK10.out).trans hk11
  have d2 : decide ([1, 3] = [1, 3]) = true := by decide
  clear hk11 hn10
  go_wp2_with fail
  go_ret
  exact ⟨rfl, HK11.out⟩
end Go.Proofs.Ytpdngekolhcndaa
