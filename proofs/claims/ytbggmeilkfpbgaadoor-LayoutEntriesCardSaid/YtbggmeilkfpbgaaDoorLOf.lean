/-
  Layer 3's areas of a disk: Of, the program's and the document's.
  Conditions: those that each theorem states.
-/
import Derived.Test.YtbggmeilkfpbgaaDoorLArith
namespace Go.Proofs.YtbggmeilkfpbgaaDoor
open Go.RowKit Go.Maps

def layV (n : Int) : Array Value := #[.int .i64 n, .int .i64 0, .int .i64 1, .int .i64 2, .int .i64 201, .int .i64 (201 + (n + 511) / 512), .int .i64 (201 + (n + 511) / 512 + 32), .int .i64 64]
def lay0 : Array Value := #[.int .i64 0, .int .i64 0, .int .i64 0, .int .i64 0, .int .i64 0, .int .i64 0, .int .i64 0, .int .i64 0]

theorem of_no (n : Int) (w : World) (h0 : n < 512 ∨ 4096 < n) :
    Calls Tryd.prog 18 #[.int .i64 n] w fun e w' => e = .returned (.tuple #[.agg lay0, .int .i64 1]) ∧ Kept [] w w' := by
  rcases h0 with h0 | h0
  · go_enter Tryd.func18, Tryd.ntmps18
    go_wp2
    exact bodyPost_ret (v := .tuple #[.agg lay0, .int .i64 1]) (by simp [results, Tryd.results18, go_sem, lay0]) rfl ⟨rfl, Kept.alloc _ _ _⟩
  · have h1 : ¬ n < 512 := by omega
    go_enter Tryd.func18, Tryd.ntmps18
    go_wp2
    exact bodyPost_ret (v := .tuple #[.agg lay0, .int .i64 1]) (by simp [results, Tryd.results18, go_sem, lay0]) rfl ⟨rfl, Kept.alloc _ _ _⟩

structure OfSt (w : World) (cs : Array Value) (wr : World) : Prop where
  r : wr.heap[w.heap.size]? = some (.cells lay0 45)
  l : wr.heap[w.heap.size + 1]? = some (.cells cs 45)
  kept : Kept [] w wr

theorem OfSt.go {w : World} {cs : Array Value} {wr w' : World} (h : OfSt w cs wr) (hk : Kept [] wr w') : OfSt w cs w' :=
  ⟨hk.heap (by simp) h.r, hk.heap (by simp) h.l, h.kept.trans hk⟩
theorem OfSt.set {w : World} {cs : Array Value} {wr : World} (h : OfSt w cs wr) (j : Nat) (v : Value) : OfSt w (cs.setIfInBounds j v) (wr.setCell ⟨w.heap.size + 1, j, none⟩ v) :=
  ⟨(Kept.setCell [w.heap.size + 1] wr ⟨w.heap.size + 1, j, none⟩ v (by simp)).heap (by simp) h.r, heap_setCell_same _ _ _ _ _ _ h.l, h.kept.into (Kept.setCell [w.heap.size + 1] wr ⟨w.heap.size + 1, j, none⟩ v (by simp)) (by simp)⟩

set_option maxHeartbeats 2000000 in
theorem of_yes (n : Int) (w : World) (h0 : 512 ≤ n) (h1 : n ≤ 4096) :
    Calls Tryd.prog 18 #[.int .i64 n] w fun e w' => e = .returned (.tuple #[.agg (layV n), .int .i64 0]) ∧ Kept [] w w' := by
  have hq : 0 ≤ (n + 512 - 1) / 512 ∧ (n + 512 - 1) / 512 ≤ 9 := by omega
  obtain ⟨q, hq'⟩ : ∃ q, (n + 512 - 1) / 512 = q := ⟨_, rfl⟩
  rw [hq'] at hq
  have HQ := Lib.hid hq'
  clear hq'
  go_enter Tryd.func18, Tryd.ntmps18
  go_wp2_with fail
  generalize hw3 : World.alloc (World.alloc w _) _ = w3
  have HS : OfSt w #[.int .i64 n, .int .i64 0, .int .i64 1, .int .i64 2, .int .i64 201, .int .i64 0, .int .i64 0, .int .i64 64] w3 := by
    rw [← hw3]
    refine ⟨(Kept.alloc [] _ _).heap (by simp) (heap_alloc_last w _), ?_, (Kept.alloc _ _ _).trans (Kept.alloc _ _ _)⟩
    have := heap_alloc_last (w.alloc (.cells lay0 45)) (.cells #[.int .i64 n, .int .i64 0, .int .i64 1, .int .i64 2, .int .i64 201, .int .i64 0, .int .i64 0, .int .i64 64] 45)
    rw [size_alloc] at this
    exact this
  clear hw3
  have HS3 := Lib.hid HS
  clear HS
  have c4 : w3.cell? ⟨w.heap.size + 1, 4, none⟩ = some (.int .i64 201) := cell_of_row _ _ 4 _ _ _ HS3.out.l
  have c5 : w3.cell? ⟨w.heap.size + 1, 5, none⟩ = some (.int .i64 0) := cell_of_row _ _ 5 _ _ _ HS3.out.l
  have f5 : w3.frozen? ⟨w.heap.size + 1, 5, none⟩ = false := frozen_of_row _ _ 5 _ _ HS3.out.l
  refine wp_region_still_tail 6 (by kernel_rfl) (by kernel_rfl) ?_
  simp only [List.take_succ_cons, List.take_zero, List.drop_succ_cons, List.drop_zero]
  still_step
  still_step
  still_step
  still_call ((blocksFor_any n 512 _ (by omega) (by omega) (by omega) (by omega)).mono fun _ _ h => ⟨h.1, h.2.symm⟩)
  rw [HQ.out]
  still_step
  still_step
  refine wpStill_nil ?_
  go_wp2_with fail
  generalize hw4 : World.drew (World.setCell w3 _ _) = w4
  have HS4 := HS3.out.set 5 (.int .i64 (201 + q))
  have HS5 : OfSt w #[.int .i64 n, .int .i64 0, .int .i64 1, .int .i64 2, .int .i64 201, .int .i64 (201 + q), .int .i64 0, .int .i64 64] w4 := by
    rw [← hw4]; exact HS4.go (Kept.drew _ _)
  clear hw4 HS4 HS3 c4 c5 f5
  have HS6 := Lib.hid HS5
  have c0 : w4.cell? ⟨w.heap.size + 1, 0, none⟩ = some (.int .i64 n) := cell_of_row _ _ 0 _ _ _ HS6.out.l
  have c1 : w4.cell? ⟨w.heap.size + 1, 1, none⟩ = some (.int .i64 0) := cell_of_row _ _ 1 _ _ _ HS6.out.l
  have c2 : w4.cell? ⟨w.heap.size + 1, 2, none⟩ = some (.int .i64 1) := cell_of_row _ _ 2 _ _ _ HS6.out.l
  have c3 : w4.cell? ⟨w.heap.size + 1, 3, none⟩ = some (.int .i64 2) := cell_of_row _ _ 3 _ _ _ HS6.out.l
  have c4 : w4.cell? ⟨w.heap.size + 1, 4, none⟩ = some (.int .i64 201) := cell_of_row _ _ 4 _ _ _ HS6.out.l
  have c5 : w4.cell? ⟨w.heap.size + 1, 5, none⟩ = some (.int .i64 (201 + q)) := cell_of_row _ _ 5 _ _ _ HS6.out.l
  have c6 : w4.cell? ⟨w.heap.size + 1, 6, none⟩ = some (.int .i64 0) := cell_of_row _ _ 6 _ _ _ HS6.out.l
  have c7 : w4.cell? ⟨w.heap.size + 1, 7, none⟩ = some (.int .i64 64) := cell_of_row _ _ 7 _ _ _ HS6.out.l
  have f5 : ∀ j, w4.frozen? ⟨w.heap.size + 1, j, none⟩ = false := fun j => frozen_of_row _ _ j _ _ HS6.out.l
  have f6 : ∀ j, w4.frozen? ⟨w.heap.size, j, none⟩ = false := fun j => frozen_of_row _ _ j _ _ HS6.out.r
  have r0 : w4.cell? ⟨w.heap.size, 0, none⟩ = some (.int .i64 0) := cell_of_row _ _ 0 _ _ _ HS6.out.r
  have r1 : w4.cell? ⟨w.heap.size, 1, none⟩ = some (.int .i64 0) := cell_of_row _ _ 1 _ _ _ HS6.out.r
  have r2 : w4.cell? ⟨w.heap.size, 2, none⟩ = some (.int .i64 0) := cell_of_row _ _ 2 _ _ _ HS6.out.r
  have r3 : w4.cell? ⟨w.heap.size, 3, none⟩ = some (.int .i64 0) := cell_of_row _ _ 3 _ _ _ HS6.out.r
  have r4 : w4.cell? ⟨w.heap.size, 4, none⟩ = some (.int .i64 0) := cell_of_row _ _ 4 _ _ _ HS6.out.r
  have r5 : w4.cell? ⟨w.heap.size, 5, none⟩ = some (.int .i64 0) := cell_of_row _ _ 5 _ _ _ HS6.out.r
  have r6 : w4.cell? ⟨w.heap.size, 6, none⟩ = some (.int .i64 0) := cell_of_row _ _ 6 _ _ _ HS6.out.r
  have r7 : w4.cell? ⟨w.heap.size, 7, none⟩ = some (.int .i64 0) := cell_of_row _ _ 7 _ _ _ HS6.out.r
  clear HS5
  refine wp_region_still_tail 5 (by kernel_rfl) (by kernel_rfl) ?_
  simp only [List.take_succ_cons, List.take_zero, List.drop_succ_cons, List.drop_zero]
  still_step
  still_step
  still_call ((blocksFor_any 64 2 _ (by omega) (by omega) (by omega) (by omega)).mono fun _ _ h => ⟨h.1, h.2.symm⟩)
  rw [show ((64 : Int) + 2 - 1) / 2 = 32 from rfl]
  still_step
  still_step
  refine wpStill_nil ?_
  go_wp2_with fail
  have hqq : q = (n + 511) / 512 := by rw [← HQ.out]; congr 1; omega
  refine bodyPost_ret (v := .tuple #[.agg (layV n), .int .i64 0]) (by simp [results, Tryd.results18, go_sem, layV, hqq, r0, r1, r2, r3, r4, r5, r6, r7]) rfl ⟨rfl, ?_⟩
  have hk := HS6.out.kept
  repeat (first | (with_reducible refine Kept.drewNew ?_) | (with_reducible refine Kept.setNew ?_ _ _ (by simp)))
  with_reducible exact hk
end Go.Proofs.YtbggmeilkfpbgaaDoor
