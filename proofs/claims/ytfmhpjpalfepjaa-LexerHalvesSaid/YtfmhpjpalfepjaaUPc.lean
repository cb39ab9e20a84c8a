/-
  Layer 11: the piece that the program cuts off a text.
  Conditions: those that each theorem states.
-/
import Derived.Test.YtfmhpjpalfepjaaUSign
import Derived.Laws.ResultCell
namespace Go.Proofs.Ytfmhpjpalfepjaa
open Go.RowKit Go.Maps

def pcA (p : Pc) : Array Value := #[.int .i64 p.kd, .int .i64 p.sz, .int .i64 p.ah, .int .i64 p.bh]
theorem retP {a b c d : Int} {p : Pc} (h1 : a = p.kd) (h2 : b = p.sz) (h3 : c = p.ah) (h4 : d = p.bh) : Ending.returned (.agg #[.int .i64 a, .int .i64 b, .int .i64 c, .int .i64 d]) = .returned (.agg (pcA p)) := by
  subst h1 h2 h3 h4; rfl
theorem four_cells {w : World} {g : Nat} {t : TypeId} {a b c d : Value} (h : w.heap[g]? = some (.cells #[a, b, c, d] t)) :
    w.cell? ⟨g, 0, none⟩ = some a ∧ w.cell? ⟨g, 1, none⟩ = some b ∧ w.cell? ⟨g, 2, none⟩ = some c ∧ w.cell? ⟨g, 3, none⟩ = some d ∧
    w.frozen? ⟨g, 0, none⟩ = false ∧ w.frozen? ⟨g, 1, none⟩ = false ∧ w.frozen? ⟨g, 2, none⟩ = false ∧ w.frozen? ⟨g, 3, none⟩ = false :=
  ⟨cell_of_row _ _ 0 _ _ _ h, cell_of_row _ _ 1 _ _ _ h, cell_of_row _ _ 2 _ _ _ h, cell_of_row _ _ 3 _ _ _ h, frozen_of_row _ _ _ _ _ h, frozen_of_row _ _ _ _ _ h, frozen_of_row _ _ _ _ _ h, frozen_of_row _ _ _ _ _ h⟩
set_option maxHeartbeats 8000000 in
theorem cut_any (S : ByteArray) (c : Nat) (w : World) (hs : S.size ≤ 9223372036854775807) (hp : 0 < S.size) :
    Calls Try.prog 20 #[.string S, .int .i64 (c : Int)] w fun e w' => e = .returned (.agg (pcA (cutO (bl S) c))) ∧ Kept [] w w' := by
  obtain ⟨w1, hw1⟩ : ∃ w1, w.alloc (.cells #[.int .i64 0, .int .i64 0, .int .i64 0, .int .i64 0] 34) = w1 := ⟨_, rfl⟩
  have HR1 : Hid (w1.heap[w.heap.size]? = some (.cells #[.int .i64 0, .int .i64 0, .int .i64 0, .int .i64 0] 34) ∧ Kept [] w w1) := by rw [← hw1]; exact ⟨heap_alloc_last _ _, Kept.alloc _ _ _⟩
  by_cases c1 : c = 1
  · subst c1
    clear hw1
    go_enter Try.func20, Try.ntmps20
    go_wp2_with fail
    refine bodyPost_ret_by (results_cell_row rfl _ _ w.heap.size 34 _ (0, 0) _ rfl (heap_alloc_last _ _) Try.underlying34 rfl (by kernel_rfl)) rfl ⟨rfl, Kept.alloc _ _ _⟩
  by_cases c2 : c = 2
  · subst c2
    clear hw1
    go_enter Try.func20, Try.ntmps20
    go_wp2_with fail
    refine (comment_any S _).mono ?_
    rintro e w2 ⟨rfl, rfl⟩
    go_wp2_with fail
    refine bodyPost_ret_by (results_cell_row rfl _ _ w.heap.size 34 _ (0, 0) _ rfl (heap_alloc_last _ _) Try.underlying34 rfl (by kernel_rfl)) rfl ⟨rfl, Kept.alloc _ _ _⟩
  by_cases c3 : c = 3
  · subst c3
    go_enter Try.func20, Try.ntmps20
    go_wp2_with fail
    refine (name_any S _ hs).mono ?_
    rintro e w2 ⟨rfl, hk2⟩
    have HR2 : Hid (Kept [] w w2) := HR1.out.2.trans hk2
    have HROW : Hid (w2.heap[w.heap.size]? = some (.cells #[.int .i64 0, .int .i64 0, .int .i64 0, .int .i64 0] 34)) := hk2.heap (by simp) HR1.out.1
    obtain ⟨hc0, hc1, hc2, hc3, f0, f1, f2, f3⟩ := four_cells HROW.out
    clear hk2 hw1
    go_wp2_with fail
    refine bodyPost_ret_by (results_cell_row rfl _ _ w.heap.size 34 _ (0, 0) _ rfl (heap_setCell_same _ _ 3 _ _ _ (heap_setCell_same _ _ 2 _ _ _ (heap_setCell_same _ _ 1 _ _ _ (heap_setCell_same _ _ 0 _ _ _ HROW.out)))) Try.underlying34 rfl (by kernel_rfl)) rfl ⟨rfl, (((HR2.out.setNew _ _ (Nat.le_refl _)).setNew _ _ (Nat.le_refl _)).setNew _ _ (Nat.le_refl _)).setNew _ _ (Nat.le_refl _)⟩
  by_cases c4 : c = 4
  · subst c4
    go_enter Try.func20, Try.ntmps20
    go_wp2_with fail
    refine (part_any S grB 4 _ hs cls_gr).mono ?_
    rintro e w2 ⟨rfl, hk2⟩
    have HR2 : Hid (Kept [] w w2) := HR1.out.2.trans hk2
    have HROW : Hid (w2.heap[w.heap.size]? = some (.cells #[.int .i64 0, .int .i64 0, .int .i64 0, .int .i64 0] 34)) := hk2.heap (by simp) HR1.out.1
    obtain ⟨hc0, hc1, hc2, hc3, f0, f1, f2, f3⟩ := four_cells HROW.out
    clear hk2 hw1
    go_wp2_with fail
    refine bodyPost_ret_by (results_cell_row rfl _ _ w.heap.size 34 _ (0, 0) _ rfl (heap_setCell_same _ _ 3 _ _ _ (heap_setCell_same _ _ 2 _ _ _ (heap_setCell_same _ _ 1 _ _ _ (heap_setCell_same _ _ 0 _ _ _ HROW.out)))) Try.underlying34 rfl (by kernel_rfl)) rfl ⟨rfl, (((HR2.out.setNew _ _ (Nat.le_refl _)).setNew _ _ (Nat.le_refl _)).setNew _ _ (Nat.le_refl _)).setNew _ _ (Nat.le_refl _)⟩
  by_cases c5 : c = 5
  · subst c5
    go_enter Try.func20, Try.ntmps20
    go_wp2_with fail
    refine (number_any S _ hs).mono ?_
    rintro e w2 ⟨rfl, hk2⟩
    have HR2 : Hid (Kept [] w w2) := HR1.out.2.trans hk2
    have HROW : Hid (w2.heap[w.heap.size]? = some (.cells #[.int .i64 0, .int .i64 0, .int .i64 0, .int .i64 0] 34)) := hk2.heap (by simp) HR1.out.1
    obtain ⟨hc0, hc1, hc2, hc3, f0, f1, f2, f3⟩ := four_cells HROW.out
    clear hk2 hw1
    go_wp2_with fail
    refine bodyPost_ret_by (results_cell_row rfl _ _ w.heap.size 34 _ (0, 0) _ rfl (heap_setCell_same _ _ 3 _ _ _ (heap_setCell_same _ _ 2 _ _ _ (heap_setCell_same _ _ 1 _ _ _ (heap_setCell_same _ _ 0 _ _ _ HROW.out)))) Try.underlying34 rfl (by kernel_rfl)) rfl ⟨rfl, (((HR2.out.setNew _ _ (Nat.le_refl _)).setNew _ _ (Nat.le_refl _)).setNew _ _ (Nat.le_refl _)).setNew _ _ (Nat.le_refl _)⟩
  by_cases c7 : c = 7
  · subst c7
    go_enter Try.func20, Try.ntmps20
    go_wp2_with fail
    refine (variable_any S _ hs hp).mono ?_
    rintro e w2 ⟨rfl, hk2⟩
    have HR2 : Hid (Kept [] w w2) := HR1.out.2.trans hk2
    have HROW : Hid (w2.heap[w.heap.size]? = some (.cells #[.int .i64 0, .int .i64 0, .int .i64 0, .int .i64 0] 34)) := hk2.heap (by simp) HR1.out.1
    obtain ⟨hc0, hc1, hc2, hc3, f0, f1, f2, f3⟩ := four_cells HROW.out
    clear hk2 hw1
    go_wp2_with fail
    refine bodyPost_ret_by (results_cell_row rfl _ _ w.heap.size 34 _ (0, 0) _ rfl (heap_setCell_same _ _ 3 _ _ _ (heap_setCell_same _ _ 2 _ _ _ (heap_setCell_same _ _ 1 _ _ _ (heap_setCell_same _ _ 0 _ _ _ HROW.out)))) Try.underlying34 rfl (by kernel_rfl)) rfl ⟨rfl, (((HR2.out.setNew _ _ (Nat.le_refl _)).setNew _ _ (Nat.le_refl _)).setNew _ _ (Nat.le_refl _)).setNew _ _ (Nat.le_refl _)⟩
  by_cases c8 : c = 8
  · subst c8
    go_enter Try.func20, Try.ntmps20
    go_wp2_with fail
    refine (quoted_any S _ hs hp).mono ?_
    rintro e w2 ⟨rfl, hk2⟩
    have HR2 : Hid (Kept [] w w2) := HR1.out.2.trans hk2
    have HROW : Hid (w2.heap[w.heap.size]? = some (.cells #[.int .i64 0, .int .i64 0, .int .i64 0, .int .i64 0] 34)) := hk2.heap (by simp) HR1.out.1
    obtain ⟨hc0, hc1, hc2, hc3, f0, f1, f2, f3⟩ := four_cells HROW.out
    clear hk2 hw1
    go_wp2_with fail
    refine bodyPost_ret_by (results_cell_row rfl _ _ w.heap.size 34 _ (0, 0) _ rfl (heap_setCell_same _ _ 3 _ _ _ (heap_setCell_same _ _ 2 _ _ _ (heap_setCell_same _ _ 1 _ _ _ (heap_setCell_same _ _ 0 _ _ _ HROW.out)))) Try.underlying34 rfl (by kernel_rfl)) rfl ⟨rfl, (((HR2.out.setNew _ _ (Nat.le_refl _)).setNew _ _ (Nat.le_refl _)).setNew _ _ (Nat.le_refl _)).setNew _ _ (Nat.le_refl _)⟩
  by_cases c9 : c = 9
  · subst c9
    go_enter Try.func20, Try.ntmps20
    go_wp2_with fail
    refine (quoted_any S _ hs hp).mono ?_
    rintro e w2 ⟨rfl, hk2⟩
    have HR2 : Hid (Kept [] w w2) := HR1.out.2.trans hk2
    have HROW : Hid (w2.heap[w.heap.size]? = some (.cells #[.int .i64 0, .int .i64 0, .int .i64 0, .int .i64 0] 34)) := hk2.heap (by simp) HR1.out.1
    obtain ⟨hc0, hc1, hc2, hc3, f0, f1, f2, f3⟩ := four_cells HROW.out
    clear hk2 hw1
    go_wp2_with fail
    refine bodyPost_ret_by (results_cell_row rfl _ _ w.heap.size 34 _ (0, 0) _ rfl (heap_setCell_same _ _ 3 _ _ _ (heap_setCell_same _ _ 2 _ _ _ (heap_setCell_same _ _ 1 _ _ _ (heap_setCell_same _ _ 0 _ _ _ HROW.out)))) Try.underlying34 rfl (by kernel_rfl)) rfl ⟨rfl, (((HR2.out.setNew _ _ (Nat.le_refl _)).setNew _ _ (Nat.le_refl _)).setNew _ _ (Nat.le_refl _)).setNew _ _ (Nat.le_refl _)⟩
  · have HC : Hid (cutO (bl S) c = ⟨7, signN (bl S), 0, 0⟩) := by show _ = _; unfold cutO; simp only [c1, c2, c3, c4, c5, c7, c8, c9, if_false]
    have d1 : ¬ (c : Int) = 1 := by omega
    have d2 : ¬ (c : Int) = 2 := by omega
    have d3 : ¬ (c : Int) = 3 := by omega
    have d4 : ¬ (c : Int) = 4 := by omega
    have d5 : ¬ (c : Int) = 5 := by omega
    have d7 : ¬ (c : Int) = 7 := by omega
    have d8 : ¬ (c : Int) = 8 := by omega
    have d9 : ¬ (c : Int) = 9 := by omega
    clear hw1 c1 c2 c3 c4 c5 c7 c8 c9
    go_enter Try.func20, Try.ntmps20
    go_wp2_with fail
    refine (sign_any S _).mono ?_
    rintro e w2 ⟨rfl, rfl⟩
    go_wp2_with fail
    refine bodyPost_ret_by (results_cell_row rfl _ _ w.heap.size 34 _ (0, 0) _ rfl (heap_alloc_last _ _) Try.underlying34 rfl (by kernel_rfl)) rfl ⟨by rw [HC.out]; rfl, Kept.alloc _ _ _⟩
end Go.Proofs.Ytfmhpjpalfepjaa
