/-
  LayoutCosts, walked: what is greater costs no less, and a node costs at most 39 blocks.
  Conditions: none.
-/
import Derived.Test.YtampdibpmgiffaaDoorLShown
namespace Go.Proofs.YtampdibpmgiffaaDoor
open Go.RowKit Go.Maps

theorem costI_bd (k s : Int) : 0 ≤ costI k s ∧ costI k s ≤ 39 := by
  have := dataI_bd k s
  unfold costI
  split <;> omega
theorem costI_mono (k a b : Int) (h0 : 0 ≤ a) (h : a ≤ b) (hy : 0 < costI k b) : costI k a ≤ costI k b := by
  have hd : dataI k a ≤ dataI k b ∨ dataI k b ≤ 0 := by
    unfold dataI
    repeat' split
    all_goals omega
  have hy' : 0 < dataI k b := by
    unfold costI at hy
    split at hy <;> omega
  have hd2 : dataI k a ≤ dataI k b := by omega
  unfold costI
  split <;> split <;> omega

set_option maxRecDepth 100000 in
set_option maxHeartbeats 2000000 in
theorem costs_walk (k a b : Int) (w : World) : Calls Tryd.prog 8 #[.int .i64 k, .int .i64 a, .int .i64 b] w fun e w' => e = .returned (.bool true) ∧ Kept [] w w' := by
  by_cases hab : a ≤ b
  · have bx := costI_bd k a
    have by' := costI_bd k b
    have hm : 1 ≤ k ∧ k ≤ 3 ∧ 0 ≤ a ∧ 0 < costI k b → costI k a ≤ costI k b := fun h => costI_mono k a b h.2.2.1 hab h.2.2.2
    obtain ⟨x, hx⟩ : ∃ x, costI k a = x := ⟨_, rfl⟩
    obtain ⟨y, hy⟩ : ∃ y, costI k b = y := ⟨_, rfl⟩
    rw [hx] at bx hm
    rw [hy] at by' hm
    have HX := Lib.hid hx
    have HY := Lib.hid hy
    have h : x ≤ y ∨ ¬ (1 ≤ k ∧ k ≤ 3 ∧ 0 ≤ a ∧ 0 < y) := by
      by_cases q : 1 ≤ k ∧ k ≤ 3 ∧ 0 ≤ a ∧ 0 < y
      · exact .inl (hm q)
      · exact .inr q
    have HQ := Lib.hid h
    clear hx hy hm h
    go_enter Tryd.func8, Tryd.ntmps8
    go_wp2_with fail
    refine (shown3_any _).mono ?_
    rintro e w1 ⟨rfl, hk1⟩
    have HK1 := Lib.hid hk1
    clear hk1
    go_wp2_with fail
    refine (cost_any k a _).mono ?_
    rw [HX.out]
    rintro e w7 ⟨rfl, rfl⟩
    go_wp2_with fail
    refine (cost_any k b _).mono ?_
    rw [HY.out]
    rintro e w7 ⟨rfl, rfl⟩
    go_wp2_with fail
    all_goals
      first
        | (exfalso; have := HQ.out; omega)
        | (go_ret; exact ⟨rfl, HK1.out⟩)
        | (go_ret; refine ⟨retB ?_, HK1.out⟩; simp; have := HQ.out; omega)
  · have bx := costI_bd k b
    have by' := costI_bd k a
    have hm : 1 ≤ k ∧ k ≤ 3 ∧ 0 ≤ b ∧ 0 < costI k a → costI k b ≤ costI k a := fun h => costI_mono k b a h.2.2.1 (by omega) h.2.2.2
    obtain ⟨x, hx⟩ : ∃ x, costI k b = x := ⟨_, rfl⟩
    obtain ⟨y, hy⟩ : ∃ y, costI k a = y := ⟨_, rfl⟩
    rw [hx] at bx hm
    rw [hy] at by' hm
    have HX := Lib.hid hx
    have HY := Lib.hid hy
    have h : x ≤ y ∨ ¬ (1 ≤ k ∧ k ≤ 3 ∧ 0 ≤ b ∧ 0 < y) := by
      by_cases q : 1 ≤ k ∧ k ≤ 3 ∧ 0 ≤ b ∧ 0 < y
      · exact .inl (hm q)
      · exact .inr q
    have HQ := Lib.hid h
    clear hx hy hm h
    go_enter Tryd.func8, Tryd.ntmps8
    go_wp2_with fail
    refine (shown3_any _).mono ?_
    rintro e w1 ⟨rfl, hk1⟩
    have HK1 := Lib.hid hk1
    clear hk1
    go_wp2_with fail
    refine (cost_any k b _).mono ?_
    rw [HX.out]
    rintro e w7 ⟨rfl, rfl⟩
    go_wp2_with fail
    refine (cost_any k a _).mono ?_
    rw [HY.out]
    rintro e w7 ⟨rfl, rfl⟩
    go_wp2_with fail
    all_goals
      first
        | (exfalso; have := HQ.out; omega)
        | (go_ret; exact ⟨rfl, HK1.out⟩)
        | (go_ret; refine ⟨retB ?_, HK1.out⟩; simp; have := HQ.out; omega)

end Go.Proofs.YtampdibpmgiffaaDoor
