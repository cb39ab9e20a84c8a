/-
  LayoutParts, walked: a disk has the parts that the document says, side by side; and nodes cost what it says.
  Conditions: none.
-/
import Derived.Test.YtampdibpmgiffaaDoorLShown
namespace Go.Proofs.YtampdibpmgiffaaDoor
open Go.RowKit Go.Maps

set_option maxRecDepth 100000 in
set_option maxHeartbeats 4000000 in
theorem parts_walk (n k s : Int) (w : World) (b0 : -9223372036854775808 ≤ n) (b1 : n ≤ 9223372036854775807) : Calls Tryd.prog 3 #[.int .i64 n, .int .i64 k, .int .i64 s] w fun e w' => e = .returned (.bool true) ∧ Kept [] w w' := by
  obtain ⟨c, hc⟩ : ∃ c, costI k s = c := ⟨_, rfl⟩
  have HC := Lib.hid hc
  clear hc
  by_cases hin : 512 ≤ n ∧ n ≤ 4096
  · obtain ⟨h0, h1⟩ := hin
    obtain ⟨q, hq⟩ : ∃ q, (n + 511) / 512 = q := ⟨_, rfl⟩
    have hqb : 1 ≤ q ∧ q ≤ 8 := by omega
    have hqn : 201 + q + 32 < n := by omega
    have hlay : layV n = #[.int .i64 n, .int .i64 0, .int .i64 1, .int .i64 2, .int .i64 201, .int .i64 (201 + q), .int .i64 (201 + q + 32), .int .i64 64] := by rw [← hq]; rfl
    have HLAY := Lib.hid hlay
    have HQ := Lib.hid hq
    clear hlay hq
    go_enter Tryd.func3, Tryd.ntmps3
    go_wp2_with fail
    refine (shown3_any _).mono ?_
    rintro e w1 ⟨rfl, hk1⟩
    have HK1 := Lib.hid hk1
    clear hk1
    go_wp2_with fail
    refine (of_yes n _ h0 h1).mono ?_
    rw [HLAY.out]
    rintro e w2 ⟨rfl, hk2⟩
    have HK2 := Lib.hid (HK1.out.trans hk2)
    clear hk2 HK1
    clear w1
    go_wp2_with fail
    generalize hw3 : World.alloc w2 _ = w3
    have HH3 := Lib.hid (show w3.heap[w2.heap.size]? = some (.cells #[.int .i64 n, .int .i64 0, .int .i64 1, .int .i64 2, .int .i64 201, .int .i64 (201 + q), .int .i64 (201 + q + 32), .int .i64 64] 24) by rw [← hw3]; exact heap_alloc_last _ _)
    have HK3 := Lib.hid (show Kept [] w w3 by rw [← hw3]; exact HK2.out.trans (Kept.alloc _ _ _))
    clear hw3 HK2
    generalize w2.heap.size = L at HH3 ⊢
    refine (rof_yes n _ h0 h1).mono ?_
    rw [HLAY.out]
    rintro e w4 ⟨rfl, hk4⟩
    have hh4 := hk4.heap (by simp) HH3.out
    have HK4 := Lib.hid (HK3.out.trans hk4)
    have hL : L < w4.heap.size := (Array.getElem?_eq_some_iff.1 hh4).1
    have c0 : w4.cell? ⟨L, 0, none⟩ = some (.int .i64 n) := cell_of_row _ _ 0 _ _ _ hh4
    have c1 : w4.cell? ⟨L, 1, none⟩ = some (.int .i64 0) := cell_of_row _ _ 1 _ _ _ hh4
    have c2 : w4.cell? ⟨L, 2, none⟩ = some (.int .i64 1) := cell_of_row _ _ 2 _ _ _ hh4
    have c3 : w4.cell? ⟨L, 3, none⟩ = some (.int .i64 2) := cell_of_row _ _ 3 _ _ _ hh4
    have c4 : w4.cell? ⟨L, 4, none⟩ = some (.int .i64 201) := cell_of_row _ _ 4 _ _ _ hh4
    have c5 : w4.cell? ⟨L, 5, none⟩ = some (.int .i64 (201 + q)) := cell_of_row _ _ 5 _ _ _ hh4
    have c6 : w4.cell? ⟨L, 6, none⟩ = some (.int .i64 (201 + q + 32)) := cell_of_row _ _ 6 _ _ _ hh4
    have c7 : w4.cell? ⟨L, 7, none⟩ = some (.int .i64 64) := cell_of_row _ _ 7 _ _ _ hh4
    clear hk4 hh4 HK3 HH3
    clear w3
    go_wp2_with fail
    refine (cost_any k s _).mono ?_
    rw [HC.out]
    rintro e w7 ⟨rfl, rfl⟩
    go_wp2_with fail
    refine (rcost_any k s _).mono ?_
    rw [HC.out]
    rintro e w7 ⟨rfl, rfl⟩
    go_wp2_with fail
    all_goals
      first
        | (go_ret; exact ⟨rfl, HK4.out.trans (Kept.alloc _ _ _)⟩)
        | (exfalso; rename_i hz; have := HQ.out; omega)
  · have hout : n < 512 ∨ 4096 < n := by omega
    go_enter Tryd.func3, Tryd.ntmps3
    go_wp2_with fail
    refine (shown3_any _).mono ?_
    rintro e w1 ⟨rfl, hk1⟩
    have HK1 := Lib.hid hk1
    clear hk1
    go_wp2_with fail
    refine (of_no n _ hout).mono ?_
    rw [show lay0 = #[.int .i64 0, .int .i64 0, .int .i64 0, .int .i64 0, .int .i64 0, .int .i64 0, .int .i64 0, .int .i64 0] from rfl]
    rintro e w2 ⟨rfl, hk2⟩
    have HK2 := Lib.hid (HK1.out.trans hk2)
    clear hk2 HK1
    clear w1
    go_wp2_with fail
    generalize hw3 : World.alloc w2 _ = w3
    have HH3 := Lib.hid (show w3.heap[w2.heap.size]? = some (.cells #[.int .i64 0, .int .i64 0, .int .i64 0, .int .i64 0, .int .i64 0, .int .i64 0, .int .i64 0, .int .i64 0] 24) by rw [← hw3]; exact heap_alloc_last _ _)
    have HK3 := Lib.hid (show Kept [] w w3 by rw [← hw3]; exact HK2.out.trans (Kept.alloc _ _ _))
    clear hw3 HK2
    generalize w2.heap.size = L at HH3 ⊢
    refine (rof_no n _ hout).mono ?_
    rw [show lay0 = #[.int .i64 0, .int .i64 0, .int .i64 0, .int .i64 0, .int .i64 0, .int .i64 0, .int .i64 0, .int .i64 0] from rfl]
    rintro e w4 ⟨rfl, hk4⟩
    have hh4 := hk4.heap (by simp) HH3.out
    have HK4 := Lib.hid (HK3.out.trans hk4)
    have hL : L < w4.heap.size := (Array.getElem?_eq_some_iff.1 hh4).1
    have c0 : w4.cell? ⟨L, 0, none⟩ = some (.int .i64 0) := cell_of_row _ _ 0 _ _ _ hh4
    have c1 : w4.cell? ⟨L, 1, none⟩ = some (.int .i64 0) := cell_of_row _ _ 1 _ _ _ hh4
    have c2 : w4.cell? ⟨L, 2, none⟩ = some (.int .i64 0) := cell_of_row _ _ 2 _ _ _ hh4
    have c3 : w4.cell? ⟨L, 3, none⟩ = some (.int .i64 0) := cell_of_row _ _ 3 _ _ _ hh4
    have c4 : w4.cell? ⟨L, 4, none⟩ = some (.int .i64 0) := cell_of_row _ _ 4 _ _ _ hh4
    have c5 : w4.cell? ⟨L, 5, none⟩ = some (.int .i64 0) := cell_of_row _ _ 5 _ _ _ hh4
    have c6 : w4.cell? ⟨L, 6, none⟩ = some (.int .i64 0) := cell_of_row _ _ 6 _ _ _ hh4
    have c7 : w4.cell? ⟨L, 7, none⟩ = some (.int .i64 0) := cell_of_row _ _ 7 _ _ _ hh4
    clear hk4 hh4 HK3 HH3
    clear w3
    go_wp2_with fail
    refine (cost_any k s _).mono ?_
    rw [HC.out]
    rintro e w7 ⟨rfl, rfl⟩
    go_wp2_with fail
    refine (rcost_any k s _).mono ?_
    rw [HC.out]
    rintro e w7 ⟨rfl, rfl⟩
    go_wp2_with fail
    go_ret
    exact ⟨rfl, HK4.out.trans (Kept.alloc _ _ _)⟩

end Go.Proofs.YtampdibpmgiffaaDoor
