/-
  Layer 13: the rule of each kind of nodes.
  Conditions: those that each theorem states.
  Layer 13: a node that is as the rule of its kind asks: the program's sound.
  Conditions: those that each theorem states.
-/
import Derived.Test.YtfpdgdacifiejaaGreatUPc
import Derived.Test.YtfpdgdacifiejaaGreatUCut
import Derived.Test.YtfpdgdacifiejaaGreatWLab
import Derived.Test.YtfpdgdacifiejaaGreatTKit
namespace Go.Proofs.YtfpdgdacifiejaaGreat
open Go.RowKit Go.Maps

/-- A rule: what a text may be, what may stand below. -/
def rlV (lab bel : FuncId) : Array Value := #[.func (.func lab) #[] #[], .func (.func bel) #[] #[]]
def RuleC (fid : FuncId) (k : Nat) (lab bel : FuncId) : Prop := ∀ w : World, Calls Tryz.prog fid #[.int .i64 (k : Int)] w fun e w' => e = .returned (.tuple #[.agg (rlV lab bel), .bool true]) ∧ Kept [] w w'
theorem store_fn (f : FuncId) (a : Addr) (m : World) : (store a (.func (.func f) #[] #[])).run Tryz.prog m = stored Tryz.prog m a (.func (.func f) #[] #[]) .plain := run_store _ m a _ _ rfl
theorem rl_put2 {w w1 : World} {x y : Value} (e : w1.heap[w.heap.size]? = some (.cells #[x, y] 91)) (hk : Kept [] w w1) (a b : Value) :
    ((w1.setCell ⟨w.heap.size, 0, none⟩ a).setCell ⟨w.heap.size, 1, none⟩ b).heap[w.heap.size]? = some (.cells #[a, b] 91) ∧ Kept [] w ((w1.setCell ⟨w.heap.size, 0, none⟩ a).setCell ⟨w.heap.size, 1, none⟩ b) := by
  refine ⟨?_, (hk.into (Kept.setCell [w.heap.size] _ _ _ (by simp)) (by simp)).into (Kept.setCell [w.heap.size] _ _ _ (by simp)) (by simp)⟩
  simp only [World.setCell]
  rw [Array.getElem?_modify, if_pos rfl, Array.getElem?_modify, if_pos rfl, e]
  rfl
theorem rl_put {w w1 : World} {x y : Value} (h1 : w.alloc (.cells #[x, y] 91) = w1) (a b : Value) :
    ((w1.setCell ⟨w.heap.size, 0, none⟩ a).setCell ⟨w.heap.size, 1, none⟩ b).heap[w.heap.size]? = some (.cells #[a, b] 91) ∧ Kept [] w ((w1.setCell ⟨w.heap.size, 0, none⟩ a).setCell ⟨w.heap.size, 1, none⟩ b) := by
  subst h1
  exact rl_put2 (heap_alloc_last _ _) (Kept.alloc _ _ _) a b
set_option maxRecDepth 100000 in
set_option maxHeartbeats 2000000 in
theorem pruleOf_1 : RuleC 57 1 88 89 := by
  intro w
  have hsf := store_fn
  obtain ⟨w1, hw1⟩ : ∃ w1, w.alloc (.cells #[Value.nilFunc, Value.nilFunc] 91) = w1 := ⟨_, rfl⟩
  have HZ := Lib.hid (rl_put hw1 (.func (.func 88) #[] #[]) (.func (.func 89) #[] #[]))
  have c0 : w1.cell? ⟨w.heap.size, 0, none⟩ = some Value.nilFunc := by rw [← hw1]; exact cell_of_row _ _ 0 _ _ _ (heap_alloc_last _ _)
  have c1 : w1.cell? ⟨w.heap.size, 1, none⟩ = some Value.nilFunc := by rw [← hw1]; exact cell_of_row _ _ 1 _ _ _ (heap_alloc_last _ _)
  have ff : ∀ q, w1.frozen? ⟨w.heap.size, q, none⟩ = false := by rw [← hw1]; exact fun q => frozen_of_row _ _ q _ _ (heap_alloc_last _ _)
  go_enter Tryz.func57, Tryz.ntmps57
  go_wp2_with fail
  refine bodyPost_ret_by (results_rowQ (p := 2) (u := 3) rfl _ _ w.heap.size 91 _ _ rfl HZ.out.1 Tryz.underlying91 rfl (by kernel_rfl)) rfl ?_
  exact ⟨rfl, HZ.out.2⟩
set_option maxRecDepth 100000 in
set_option maxHeartbeats 2000000 in
theorem pruleOf_2 : RuleC 57 2 90 91 := by
  intro w
  have hsf := store_fn
  obtain ⟨w1, hw1⟩ : ∃ w1, w.alloc (.cells #[Value.nilFunc, Value.nilFunc] 91) = w1 := ⟨_, rfl⟩
  have HZ := Lib.hid (rl_put hw1 (.func (.func 90) #[] #[]) (.func (.func 91) #[] #[]))
  have c0 : w1.cell? ⟨w.heap.size, 0, none⟩ = some Value.nilFunc := by rw [← hw1]; exact cell_of_row _ _ 0 _ _ _ (heap_alloc_last _ _)
  have c1 : w1.cell? ⟨w.heap.size, 1, none⟩ = some Value.nilFunc := by rw [← hw1]; exact cell_of_row _ _ 1 _ _ _ (heap_alloc_last _ _)
  have ff : ∀ q, w1.frozen? ⟨w.heap.size, q, none⟩ = false := by rw [← hw1]; exact fun q => frozen_of_row _ _ q _ _ (heap_alloc_last _ _)
  go_enter Tryz.func57, Tryz.ntmps57
  go_wp2_with fail
  refine bodyPost_ret_by (results_rowQ (p := 2) (u := 3) rfl _ _ w.heap.size 91 _ _ rfl HZ.out.1 Tryz.underlying91 rfl (by kernel_rfl)) rfl ?_
  exact ⟨rfl, HZ.out.2⟩
set_option maxRecDepth 100000 in
set_option maxHeartbeats 2000000 in
theorem pruleOf_3 : RuleC 57 3 90 91 := by
  intro w
  have hsf := store_fn
  obtain ⟨w1, hw1⟩ : ∃ w1, w.alloc (.cells #[Value.nilFunc, Value.nilFunc] 91) = w1 := ⟨_, rfl⟩
  have HZ := Lib.hid (rl_put hw1 (.func (.func 90) #[] #[]) (.func (.func 91) #[] #[]))
  have c0 : w1.cell? ⟨w.heap.size, 0, none⟩ = some Value.nilFunc := by rw [← hw1]; exact cell_of_row _ _ 0 _ _ _ (heap_alloc_last _ _)
  have c1 : w1.cell? ⟨w.heap.size, 1, none⟩ = some Value.nilFunc := by rw [← hw1]; exact cell_of_row _ _ 1 _ _ _ (heap_alloc_last _ _)
  have ff : ∀ q, w1.frozen? ⟨w.heap.size, q, none⟩ = false := by rw [← hw1]; exact fun q => frozen_of_row _ _ q _ _ (heap_alloc_last _ _)
  go_enter Tryz.func57, Tryz.ntmps57
  go_wp2_with fail
  refine bodyPost_ret_by (results_rowQ (p := 2) (u := 3) rfl _ _ w.heap.size 91 _ _ rfl HZ.out.1 Tryz.underlying91 rfl (by kernel_rfl)) rfl ?_
  exact ⟨rfl, HZ.out.2⟩
set_option maxRecDepth 100000 in
set_option maxHeartbeats 2000000 in
theorem pruleOf_4 : RuleC 57 4 92 93 := by
  intro w
  have hsf := store_fn
  obtain ⟨w1, hw1⟩ : ∃ w1, w.alloc (.cells #[Value.nilFunc, Value.nilFunc] 91) = w1 := ⟨_, rfl⟩
  have HZ := Lib.hid (rl_put hw1 (.func (.func 92) #[] #[]) (.func (.func 93) #[] #[]))
  have c0 : w1.cell? ⟨w.heap.size, 0, none⟩ = some Value.nilFunc := by rw [← hw1]; exact cell_of_row _ _ 0 _ _ _ (heap_alloc_last _ _)
  have c1 : w1.cell? ⟨w.heap.size, 1, none⟩ = some Value.nilFunc := by rw [← hw1]; exact cell_of_row _ _ 1 _ _ _ (heap_alloc_last _ _)
  have ff : ∀ q, w1.frozen? ⟨w.heap.size, q, none⟩ = false := by rw [← hw1]; exact fun q => frozen_of_row _ _ q _ _ (heap_alloc_last _ _)
  go_enter Tryz.func57, Tryz.ntmps57
  go_wp2_with fail
  refine bodyPost_ret_by (results_rowQ (p := 2) (u := 3) rfl _ _ w.heap.size 91 _ _ rfl HZ.out.1 Tryz.underlying91 rfl (by kernel_rfl)) rfl ?_
  exact ⟨rfl, HZ.out.2⟩
set_option maxRecDepth 100000 in
set_option maxHeartbeats 2000000 in
theorem pruleOf_5 : RuleC 57 5 90 94 := by
  intro w
  have hsf := store_fn
  obtain ⟨w1, hw1⟩ : ∃ w1, w.alloc (.cells #[Value.nilFunc, Value.nilFunc] 91) = w1 := ⟨_, rfl⟩
  have HZ := Lib.hid (rl_put hw1 (.func (.func 90) #[] #[]) (.func (.func 94) #[] #[]))
  have c0 : w1.cell? ⟨w.heap.size, 0, none⟩ = some Value.nilFunc := by rw [← hw1]; exact cell_of_row _ _ 0 _ _ _ (heap_alloc_last _ _)
  have c1 : w1.cell? ⟨w.heap.size, 1, none⟩ = some Value.nilFunc := by rw [← hw1]; exact cell_of_row _ _ 1 _ _ _ (heap_alloc_last _ _)
  have ff : ∀ q, w1.frozen? ⟨w.heap.size, q, none⟩ = false := by rw [← hw1]; exact fun q => frozen_of_row _ _ q _ _ (heap_alloc_last _ _)
  go_enter Tryz.func57, Tryz.ntmps57
  go_wp2_with fail
  refine bodyPost_ret_by (results_rowQ (p := 2) (u := 3) rfl _ _ w.heap.size 91 _ _ rfl HZ.out.1 Tryz.underlying91 rfl (by kernel_rfl)) rfl ?_
  exact ⟨rfl, HZ.out.2⟩
set_option maxRecDepth 100000 in
set_option maxHeartbeats 2000000 in
theorem pruleOf_6 : RuleC 57 6 92 95 := by
  intro w
  have hsf := store_fn
  obtain ⟨w1, hw1⟩ : ∃ w1, w.alloc (.cells #[Value.nilFunc, Value.nilFunc] 91) = w1 := ⟨_, rfl⟩
  have HZ := Lib.hid (rl_put hw1 (.func (.func 92) #[] #[]) (.func (.func 95) #[] #[]))
  have c0 : w1.cell? ⟨w.heap.size, 0, none⟩ = some Value.nilFunc := by rw [← hw1]; exact cell_of_row _ _ 0 _ _ _ (heap_alloc_last _ _)
  have c1 : w1.cell? ⟨w.heap.size, 1, none⟩ = some Value.nilFunc := by rw [← hw1]; exact cell_of_row _ _ 1 _ _ _ (heap_alloc_last _ _)
  have ff : ∀ q, w1.frozen? ⟨w.heap.size, q, none⟩ = false := by rw [← hw1]; exact fun q => frozen_of_row _ _ q _ _ (heap_alloc_last _ _)
  go_enter Tryz.func57, Tryz.ntmps57
  go_wp2_with fail
  refine bodyPost_ret_by (results_rowQ (p := 2) (u := 3) rfl _ _ w.heap.size 91 _ _ rfl HZ.out.1 Tryz.underlying91 rfl (by kernel_rfl)) rfl ?_
  exact ⟨rfl, HZ.out.2⟩
set_option maxRecDepth 100000 in
set_option maxHeartbeats 2000000 in
theorem pruleOf_7 : RuleC 57 7 88 96 := by
  intro w
  have hsf := store_fn
  obtain ⟨w1, hw1⟩ : ∃ w1, w.alloc (.cells #[Value.nilFunc, Value.nilFunc] 91) = w1 := ⟨_, rfl⟩
  have HZ := Lib.hid (rl_put hw1 (.func (.func 88) #[] #[]) (.func (.func 96) #[] #[]))
  have c0 : w1.cell? ⟨w.heap.size, 0, none⟩ = some Value.nilFunc := by rw [← hw1]; exact cell_of_row _ _ 0 _ _ _ (heap_alloc_last _ _)
  have c1 : w1.cell? ⟨w.heap.size, 1, none⟩ = some Value.nilFunc := by rw [← hw1]; exact cell_of_row _ _ 1 _ _ _ (heap_alloc_last _ _)
  have ff : ∀ q, w1.frozen? ⟨w.heap.size, q, none⟩ = false := by rw [← hw1]; exact fun q => frozen_of_row _ _ q _ _ (heap_alloc_last _ _)
  go_enter Tryz.func57, Tryz.ntmps57
  go_wp2_with fail
  refine bodyPost_ret_by (results_rowQ (p := 2) (u := 3) rfl _ _ w.heap.size 91 _ _ rfl HZ.out.1 Tryz.underlying91 rfl (by kernel_rfl)) rfl ?_
  exact ⟨rfl, HZ.out.2⟩
set_option maxRecDepth 100000 in
set_option maxHeartbeats 2000000 in
theorem pruleOf_8 : RuleC 57 8 90 97 := by
  intro w
  have hsf := store_fn
  obtain ⟨w1, hw1⟩ : ∃ w1, w.alloc (.cells #[Value.nilFunc, Value.nilFunc] 91) = w1 := ⟨_, rfl⟩
  have HZ := Lib.hid (rl_put hw1 (.func (.func 90) #[] #[]) (.func (.func 97) #[] #[]))
  have c0 : w1.cell? ⟨w.heap.size, 0, none⟩ = some Value.nilFunc := by rw [← hw1]; exact cell_of_row _ _ 0 _ _ _ (heap_alloc_last _ _)
  have c1 : w1.cell? ⟨w.heap.size, 1, none⟩ = some Value.nilFunc := by rw [← hw1]; exact cell_of_row _ _ 1 _ _ _ (heap_alloc_last _ _)
  have ff : ∀ q, w1.frozen? ⟨w.heap.size, q, none⟩ = false := by rw [← hw1]; exact fun q => frozen_of_row _ _ q _ _ (heap_alloc_last _ _)
  go_enter Tryz.func57, Tryz.ntmps57
  go_wp2_with fail
  refine bodyPost_ret_by (results_rowQ (p := 2) (u := 3) rfl _ _ w.heap.size 91 _ _ rfl HZ.out.1 Tryz.underlying91 rfl (by kernel_rfl)) rfl ?_
  exact ⟨rfl, HZ.out.2⟩
set_option maxRecDepth 100000 in
set_option maxHeartbeats 2000000 in
theorem pruleOf_9 : RuleC 57 9 98 95 := by
  intro w
  have hsf := store_fn
  obtain ⟨w1, hw1⟩ : ∃ w1, w.alloc (.cells #[Value.nilFunc, Value.nilFunc] 91) = w1 := ⟨_, rfl⟩
  have HZ := Lib.hid (rl_put hw1 (.func (.func 98) #[] #[]) (.func (.func 95) #[] #[]))
  have c0 : w1.cell? ⟨w.heap.size, 0, none⟩ = some Value.nilFunc := by rw [← hw1]; exact cell_of_row _ _ 0 _ _ _ (heap_alloc_last _ _)
  have c1 : w1.cell? ⟨w.heap.size, 1, none⟩ = some Value.nilFunc := by rw [← hw1]; exact cell_of_row _ _ 1 _ _ _ (heap_alloc_last _ _)
  have ff : ∀ q, w1.frozen? ⟨w.heap.size, q, none⟩ = false := by rw [← hw1]; exact fun q => frozen_of_row _ _ q _ _ (heap_alloc_last _ _)
  go_enter Tryz.func57, Tryz.ntmps57
  go_wp2_with fail
  refine bodyPost_ret_by (results_rowQ (p := 2) (u := 3) rfl _ _ w.heap.size 91 _ _ rfl HZ.out.1 Tryz.underlying91 rfl (by kernel_rfl)) rfl ?_
  exact ⟨rfl, HZ.out.2⟩
set_option maxRecDepth 100000 in
set_option maxHeartbeats 2000000 in
theorem pruleOf_10 : RuleC 57 10 88 99 := by
  intro w
  have hsf := store_fn
  obtain ⟨w1, hw1⟩ : ∃ w1, w.alloc (.cells #[Value.nilFunc, Value.nilFunc] 91) = w1 := ⟨_, rfl⟩
  have HZ := Lib.hid (rl_put hw1 (.func (.func 88) #[] #[]) (.func (.func 99) #[] #[]))
  have c0 : w1.cell? ⟨w.heap.size, 0, none⟩ = some Value.nilFunc := by rw [← hw1]; exact cell_of_row _ _ 0 _ _ _ (heap_alloc_last _ _)
  have c1 : w1.cell? ⟨w.heap.size, 1, none⟩ = some Value.nilFunc := by rw [← hw1]; exact cell_of_row _ _ 1 _ _ _ (heap_alloc_last _ _)
  have ff : ∀ q, w1.frozen? ⟨w.heap.size, q, none⟩ = false := by rw [← hw1]; exact fun q => frozen_of_row _ _ q _ _ (heap_alloc_last _ _)
  go_enter Tryz.func57, Tryz.ntmps57
  go_wp2_with fail
  refine bodyPost_ret_by (results_rowQ (p := 2) (u := 3) rfl _ _ w.heap.size 91 _ _ rfl HZ.out.1 Tryz.underlying91 rfl (by kernel_rfl)) rfl ?_
  exact ⟨rfl, HZ.out.2⟩
set_option maxRecDepth 100000 in
set_option maxHeartbeats 2000000 in
theorem pruleOf_11 : RuleC 57 11 100 95 := by
  intro w
  have hsf := store_fn
  obtain ⟨w1, hw1⟩ : ∃ w1, w.alloc (.cells #[Value.nilFunc, Value.nilFunc] 91) = w1 := ⟨_, rfl⟩
  have HZ := Lib.hid (rl_put hw1 (.func (.func 100) #[] #[]) (.func (.func 95) #[] #[]))
  have c0 : w1.cell? ⟨w.heap.size, 0, none⟩ = some Value.nilFunc := by rw [← hw1]; exact cell_of_row _ _ 0 _ _ _ (heap_alloc_last _ _)
  have c1 : w1.cell? ⟨w.heap.size, 1, none⟩ = some Value.nilFunc := by rw [← hw1]; exact cell_of_row _ _ 1 _ _ _ (heap_alloc_last _ _)
  have ff : ∀ q, w1.frozen? ⟨w.heap.size, q, none⟩ = false := by rw [← hw1]; exact fun q => frozen_of_row _ _ q _ _ (heap_alloc_last _ _)
  go_enter Tryz.func57, Tryz.ntmps57
  go_wp2_with fail
  refine bodyPost_ret_by (results_rowQ (p := 2) (u := 3) rfl _ _ w.heap.size 91 _ _ rfl HZ.out.1 Tryz.underlying91 rfl (by kernel_rfl)) rfl ?_
  exact ⟨rfl, HZ.out.2⟩
set_option maxRecDepth 100000 in
set_option maxHeartbeats 2000000 in
theorem pruleOf_12 : RuleC 57 12 101 94 := by
  intro w
  have hsf := store_fn
  obtain ⟨w1, hw1⟩ : ∃ w1, w.alloc (.cells #[Value.nilFunc, Value.nilFunc] 91) = w1 := ⟨_, rfl⟩
  have HZ := Lib.hid (rl_put hw1 (.func (.func 101) #[] #[]) (.func (.func 94) #[] #[]))
  have c0 : w1.cell? ⟨w.heap.size, 0, none⟩ = some Value.nilFunc := by rw [← hw1]; exact cell_of_row _ _ 0 _ _ _ (heap_alloc_last _ _)
  have c1 : w1.cell? ⟨w.heap.size, 1, none⟩ = some Value.nilFunc := by rw [← hw1]; exact cell_of_row _ _ 1 _ _ _ (heap_alloc_last _ _)
  have ff : ∀ q, w1.frozen? ⟨w.heap.size, q, none⟩ = false := by rw [← hw1]; exact fun q => frozen_of_row _ _ q _ _ (heap_alloc_last _ _)
  go_enter Tryz.func57, Tryz.ntmps57
  go_wp2_with fail
  refine bodyPost_ret_by (results_rowQ (p := 2) (u := 3) rfl _ _ w.heap.size 91 _ _ rfl HZ.out.1 Tryz.underlying91 rfl (by kernel_rfl)) rfl ?_
  exact ⟨rfl, HZ.out.2⟩
set_option maxRecDepth 100000 in
set_option maxHeartbeats 2000000 in
theorem pruleOfValue_13 : RuleC 102 13 126 94 := by
  intro w
  have hsf := store_fn
  obtain ⟨w1, hw1⟩ : ∃ w1, w.alloc (.cells #[Value.nilFunc, Value.nilFunc] 91) = w1 := ⟨_, rfl⟩
  have HZ := Lib.hid (rl_put hw1 (.func (.func 126) #[] #[]) (.func (.func 94) #[] #[]))
  have c0 : w1.cell? ⟨w.heap.size, 0, none⟩ = some Value.nilFunc := by rw [← hw1]; exact cell_of_row _ _ 0 _ _ _ (heap_alloc_last _ _)
  have c1 : w1.cell? ⟨w.heap.size, 1, none⟩ = some Value.nilFunc := by rw [← hw1]; exact cell_of_row _ _ 1 _ _ _ (heap_alloc_last _ _)
  have ff : ∀ q, w1.frozen? ⟨w.heap.size, q, none⟩ = false := by rw [← hw1]; exact fun q => frozen_of_row _ _ q _ _ (heap_alloc_last _ _)
  go_enter Tryz.func102, Tryz.ntmps102
  go_wp2_with fail
  refine bodyPost_ret_by (results_rowQ (p := 2) (u := 3) rfl _ _ w.heap.size 91 _ _ rfl HZ.out.1 Tryz.underlying91 rfl (by kernel_rfl)) rfl ?_
  exact ⟨rfl, HZ.out.2⟩
set_option maxRecDepth 100000 in
set_option maxHeartbeats 2000000 in
theorem pruleOfValue_14 : RuleC 102 14 127 94 := by
  intro w
  have hsf := store_fn
  obtain ⟨w1, hw1⟩ : ∃ w1, w.alloc (.cells #[Value.nilFunc, Value.nilFunc] 91) = w1 := ⟨_, rfl⟩
  have HZ := Lib.hid (rl_put hw1 (.func (.func 127) #[] #[]) (.func (.func 94) #[] #[]))
  have c0 : w1.cell? ⟨w.heap.size, 0, none⟩ = some Value.nilFunc := by rw [← hw1]; exact cell_of_row _ _ 0 _ _ _ (heap_alloc_last _ _)
  have c1 : w1.cell? ⟨w.heap.size, 1, none⟩ = some Value.nilFunc := by rw [← hw1]; exact cell_of_row _ _ 1 _ _ _ (heap_alloc_last _ _)
  have ff : ∀ q, w1.frozen? ⟨w.heap.size, q, none⟩ = false := by rw [← hw1]; exact fun q => frozen_of_row _ _ q _ _ (heap_alloc_last _ _)
  go_enter Tryz.func102, Tryz.ntmps102
  go_wp2_with fail
  refine bodyPost_ret_by (results_rowQ (p := 2) (u := 3) rfl _ _ w.heap.size 91 _ _ rfl HZ.out.1 Tryz.underlying91 rfl (by kernel_rfl)) rfl ?_
  exact ⟨rfl, HZ.out.2⟩
set_option maxRecDepth 100000 in
set_option maxHeartbeats 2000000 in
theorem pruleOfValue_15 : RuleC 102 15 128 94 := by
  intro w
  have hsf := store_fn
  obtain ⟨w1, hw1⟩ : ∃ w1, w.alloc (.cells #[Value.nilFunc, Value.nilFunc] 91) = w1 := ⟨_, rfl⟩
  have HZ := Lib.hid (rl_put hw1 (.func (.func 128) #[] #[]) (.func (.func 94) #[] #[]))
  have c0 : w1.cell? ⟨w.heap.size, 0, none⟩ = some Value.nilFunc := by rw [← hw1]; exact cell_of_row _ _ 0 _ _ _ (heap_alloc_last _ _)
  have c1 : w1.cell? ⟨w.heap.size, 1, none⟩ = some Value.nilFunc := by rw [← hw1]; exact cell_of_row _ _ 1 _ _ _ (heap_alloc_last _ _)
  have ff : ∀ q, w1.frozen? ⟨w.heap.size, q, none⟩ = false := by rw [← hw1]; exact fun q => frozen_of_row _ _ q _ _ (heap_alloc_last _ _)
  go_enter Tryz.func102, Tryz.ntmps102
  go_wp2_with fail
  refine bodyPost_ret_by (results_rowQ (p := 2) (u := 3) rfl _ _ w.heap.size 91 _ _ rfl HZ.out.1 Tryz.underlying91 rfl (by kernel_rfl)) rfl ?_
  exact ⟨rfl, HZ.out.2⟩
set_option maxRecDepth 100000 in
set_option maxHeartbeats 2000000 in
theorem pruleOfValue_16 : RuleC 102 16 92 94 := by
  intro w
  have hsf := store_fn
  obtain ⟨w1, hw1⟩ : ∃ w1, w.alloc (.cells #[Value.nilFunc, Value.nilFunc] 91) = w1 := ⟨_, rfl⟩
  have HZ := Lib.hid (rl_put hw1 (.func (.func 92) #[] #[]) (.func (.func 94) #[] #[]))
  have c0 : w1.cell? ⟨w.heap.size, 0, none⟩ = some Value.nilFunc := by rw [← hw1]; exact cell_of_row _ _ 0 _ _ _ (heap_alloc_last _ _)
  have c1 : w1.cell? ⟨w.heap.size, 1, none⟩ = some Value.nilFunc := by rw [← hw1]; exact cell_of_row _ _ 1 _ _ _ (heap_alloc_last _ _)
  have ff : ∀ q, w1.frozen? ⟨w.heap.size, q, none⟩ = false := by rw [← hw1]; exact fun q => frozen_of_row _ _ q _ _ (heap_alloc_last _ _)
  go_enter Tryz.func102, Tryz.ntmps102
  go_wp2_with fail
  refine bodyPost_ret_by (results_rowQ (p := 2) (u := 3) rfl _ _ w.heap.size 91 _ _ rfl HZ.out.1 Tryz.underlying91 rfl (by kernel_rfl)) rfl ?_
  exact ⟨rfl, HZ.out.2⟩
set_option maxRecDepth 100000 in
set_option maxHeartbeats 2000000 in
theorem pruleOfValue_17 : RuleC 102 17 88 94 := by
  intro w
  have hsf := store_fn
  obtain ⟨w1, hw1⟩ : ∃ w1, w.alloc (.cells #[Value.nilFunc, Value.nilFunc] 91) = w1 := ⟨_, rfl⟩
  have HZ := Lib.hid (rl_put hw1 (.func (.func 88) #[] #[]) (.func (.func 94) #[] #[]))
  have c0 : w1.cell? ⟨w.heap.size, 0, none⟩ = some Value.nilFunc := by rw [← hw1]; exact cell_of_row _ _ 0 _ _ _ (heap_alloc_last _ _)
  have c1 : w1.cell? ⟨w.heap.size, 1, none⟩ = some Value.nilFunc := by rw [← hw1]; exact cell_of_row _ _ 1 _ _ _ (heap_alloc_last _ _)
  have ff : ∀ q, w1.frozen? ⟨w.heap.size, q, none⟩ = false := by rw [← hw1]; exact fun q => frozen_of_row _ _ q _ _ (heap_alloc_last _ _)
  go_enter Tryz.func102, Tryz.ntmps102
  go_wp2_with fail
  refine bodyPost_ret_by (results_rowQ (p := 2) (u := 3) rfl _ _ w.heap.size 91 _ _ rfl HZ.out.1 Tryz.underlying91 rfl (by kernel_rfl)) rfl ?_
  exact ⟨rfl, HZ.out.2⟩
set_option maxRecDepth 100000 in
set_option maxHeartbeats 2000000 in
theorem pruleOfValue_18 : RuleC 102 18 88 94 := by
  intro w
  have hsf := store_fn
  obtain ⟨w1, hw1⟩ : ∃ w1, w.alloc (.cells #[Value.nilFunc, Value.nilFunc] 91) = w1 := ⟨_, rfl⟩
  have HZ := Lib.hid (rl_put hw1 (.func (.func 88) #[] #[]) (.func (.func 94) #[] #[]))
  have c0 : w1.cell? ⟨w.heap.size, 0, none⟩ = some Value.nilFunc := by rw [← hw1]; exact cell_of_row _ _ 0 _ _ _ (heap_alloc_last _ _)
  have c1 : w1.cell? ⟨w.heap.size, 1, none⟩ = some Value.nilFunc := by rw [← hw1]; exact cell_of_row _ _ 1 _ _ _ (heap_alloc_last _ _)
  have ff : ∀ q, w1.frozen? ⟨w.heap.size, q, none⟩ = false := by rw [← hw1]; exact fun q => frozen_of_row _ _ q _ _ (heap_alloc_last _ _)
  go_enter Tryz.func102, Tryz.ntmps102
  go_wp2_with fail
  refine bodyPost_ret_by (results_rowQ (p := 2) (u := 3) rfl _ _ w.heap.size 91 _ _ rfl HZ.out.1 Tryz.underlying91 rfl (by kernel_rfl)) rfl ?_
  exact ⟨rfl, HZ.out.2⟩
set_option maxRecDepth 100000 in
set_option maxHeartbeats 2000000 in
theorem pruleOfValue_19 : RuleC 102 19 129 130 := by
  intro w
  have hsf := store_fn
  obtain ⟨w1, hw1⟩ : ∃ w1, w.alloc (.cells #[Value.nilFunc, Value.nilFunc] 91) = w1 := ⟨_, rfl⟩
  have HZ := Lib.hid (rl_put hw1 (.func (.func 129) #[] #[]) (.func (.func 130) #[] #[]))
  have c0 : w1.cell? ⟨w.heap.size, 0, none⟩ = some Value.nilFunc := by rw [← hw1]; exact cell_of_row _ _ 0 _ _ _ (heap_alloc_last _ _)
  have c1 : w1.cell? ⟨w.heap.size, 1, none⟩ = some Value.nilFunc := by rw [← hw1]; exact cell_of_row _ _ 1 _ _ _ (heap_alloc_last _ _)
  have ff : ∀ q, w1.frozen? ⟨w.heap.size, q, none⟩ = false := by rw [← hw1]; exact fun q => frozen_of_row _ _ q _ _ (heap_alloc_last _ _)
  go_enter Tryz.func102, Tryz.ntmps102
  go_wp2_with fail
  refine bodyPost_ret_by (results_rowQ (p := 2) (u := 3) rfl _ _ w.heap.size 91 _ _ rfl HZ.out.1 Tryz.underlying91 rfl (by kernel_rfl)) rfl ?_
  exact ⟨rfl, HZ.out.2⟩
set_option maxRecDepth 100000 in
set_option maxHeartbeats 2000000 in
theorem pruleOfValue_20 : RuleC 102 20 88 95 := by
  intro w
  have hsf := store_fn
  obtain ⟨w1, hw1⟩ : ∃ w1, w.alloc (.cells #[Value.nilFunc, Value.nilFunc] 91) = w1 := ⟨_, rfl⟩
  have HZ := Lib.hid (rl_put hw1 (.func (.func 88) #[] #[]) (.func (.func 95) #[] #[]))
  have c0 : w1.cell? ⟨w.heap.size, 0, none⟩ = some Value.nilFunc := by rw [← hw1]; exact cell_of_row _ _ 0 _ _ _ (heap_alloc_last _ _)
  have c1 : w1.cell? ⟨w.heap.size, 1, none⟩ = some Value.nilFunc := by rw [← hw1]; exact cell_of_row _ _ 1 _ _ _ (heap_alloc_last _ _)
  have ff : ∀ q, w1.frozen? ⟨w.heap.size, q, none⟩ = false := by rw [← hw1]; exact fun q => frozen_of_row _ _ q _ _ (heap_alloc_last _ _)
  go_enter Tryz.func102, Tryz.ntmps102
  go_wp2_with fail
  refine bodyPost_ret_by (results_rowQ (p := 2) (u := 3) rfl _ _ w.heap.size 91 _ _ rfl HZ.out.1 Tryz.underlying91 rfl (by kernel_rfl)) rfl ?_
  exact ⟨rfl, HZ.out.2⟩
set_option maxRecDepth 100000 in
set_option maxHeartbeats 2000000 in
theorem pruleOf_13 : RuleC 57 13 126 94 := by
  intro w
  have hsf := store_fn
  obtain ⟨w1, hw1⟩ : ∃ w1, w.alloc (.cells #[Value.nilFunc, Value.nilFunc] 91) = w1 := ⟨_, rfl⟩
  have HZ := Lib.hid (rl_put hw1 (.func (.func 126) #[] #[]) (.func (.func 94) #[] #[]))
  have c0 : w1.cell? ⟨w.heap.size, 0, none⟩ = some Value.nilFunc := by rw [← hw1]; exact cell_of_row _ _ 0 _ _ _ (heap_alloc_last _ _)
  have c1 : w1.cell? ⟨w.heap.size, 1, none⟩ = some Value.nilFunc := by rw [← hw1]; exact cell_of_row _ _ 1 _ _ _ (heap_alloc_last _ _)
  have ff : ∀ q, w1.frozen? ⟨w.heap.size, q, none⟩ = false := by rw [← hw1]; exact fun q => frozen_of_row _ _ q _ _ (heap_alloc_last _ _)
  have hw : w1.heap[w.heap.size]? = some (.cells #[Value.nilFunc, Value.nilFunc] 91) := by rw [← hw1]; exact heap_alloc_last _ _
  have HW := Lib.hid (And.intro hw (show Kept [] w w1 by rw [← hw1]; exact Kept.alloc _ _ _))
  have HP := Lib.hid (pruleOfValue_13 w1)
  clear c0 c1 ff hw HZ
  go_enter Tryz.func57, Tryz.ntmps57
  go_wp2_with fail
  refine HP.out.mono ?_
  unfold rlV
  rintro e w2 ⟨rfl, hk⟩
  have hr := hk.heap (by simp) HW.out.1
  have HZ := Lib.hid (rl_put2 hr (HW.out.2.trans hk) (.func (.func 126) #[] #[]) (.func (.func 94) #[] #[]))
  have c0 : w2.cell? ⟨w.heap.size, 0, none⟩ = some Value.nilFunc := cell_of_row _ _ 0 _ _ _ hr
  have c1 : w2.cell? ⟨w.heap.size, 1, none⟩ = some Value.nilFunc := cell_of_row _ _ 1 _ _ _ hr
  have ff : ∀ q, w2.frozen? ⟨w.heap.size, q, none⟩ = false := fun q => frozen_of_row _ _ q _ _ hr
  clear hk hr hw1
  go_wp2_with fail
  refine bodyPost_ret_by (results_rowQ (p := 2) (u := 3) rfl _ _ w.heap.size 91 _ _ rfl HZ.out.1 Tryz.underlying91 rfl (by kernel_rfl)) rfl ?_
  exact ⟨rfl, HZ.out.2⟩
set_option maxRecDepth 100000 in
set_option maxHeartbeats 2000000 in
theorem pruleOf_14 : RuleC 57 14 127 94 := by
  intro w
  have hsf := store_fn
  obtain ⟨w1, hw1⟩ : ∃ w1, w.alloc (.cells #[Value.nilFunc, Value.nilFunc] 91) = w1 := ⟨_, rfl⟩
  have HZ := Lib.hid (rl_put hw1 (.func (.func 127) #[] #[]) (.func (.func 94) #[] #[]))
  have c0 : w1.cell? ⟨w.heap.size, 0, none⟩ = some Value.nilFunc := by rw [← hw1]; exact cell_of_row _ _ 0 _ _ _ (heap_alloc_last _ _)
  have c1 : w1.cell? ⟨w.heap.size, 1, none⟩ = some Value.nilFunc := by rw [← hw1]; exact cell_of_row _ _ 1 _ _ _ (heap_alloc_last _ _)
  have ff : ∀ q, w1.frozen? ⟨w.heap.size, q, none⟩ = false := by rw [← hw1]; exact fun q => frozen_of_row _ _ q _ _ (heap_alloc_last _ _)
  have hw : w1.heap[w.heap.size]? = some (.cells #[Value.nilFunc, Value.nilFunc] 91) := by rw [← hw1]; exact heap_alloc_last _ _
  have HW := Lib.hid (And.intro hw (show Kept [] w w1 by rw [← hw1]; exact Kept.alloc _ _ _))
  have HP := Lib.hid (pruleOfValue_14 w1)
  clear c0 c1 ff hw HZ
  go_enter Tryz.func57, Tryz.ntmps57
  go_wp2_with fail
  refine HP.out.mono ?_
  unfold rlV
  rintro e w2 ⟨rfl, hk⟩
  have hr := hk.heap (by simp) HW.out.1
  have HZ := Lib.hid (rl_put2 hr (HW.out.2.trans hk) (.func (.func 127) #[] #[]) (.func (.func 94) #[] #[]))
  have c0 : w2.cell? ⟨w.heap.size, 0, none⟩ = some Value.nilFunc := cell_of_row _ _ 0 _ _ _ hr
  have c1 : w2.cell? ⟨w.heap.size, 1, none⟩ = some Value.nilFunc := cell_of_row _ _ 1 _ _ _ hr
  have ff : ∀ q, w2.frozen? ⟨w.heap.size, q, none⟩ = false := fun q => frozen_of_row _ _ q _ _ hr
  clear hk hr hw1
  go_wp2_with fail
  refine bodyPost_ret_by (results_rowQ (p := 2) (u := 3) rfl _ _ w.heap.size 91 _ _ rfl HZ.out.1 Tryz.underlying91 rfl (by kernel_rfl)) rfl ?_
  exact ⟨rfl, HZ.out.2⟩
set_option maxRecDepth 100000 in
set_option maxHeartbeats 2000000 in
theorem pruleOf_15 : RuleC 57 15 128 94 := by
  intro w
  have hsf := store_fn
  obtain ⟨w1, hw1⟩ : ∃ w1, w.alloc (.cells #[Value.nilFunc, Value.nilFunc] 91) = w1 := ⟨_, rfl⟩
  have HZ := Lib.hid (rl_put hw1 (.func (.func 128) #[] #[]) (.func (.func 94) #[] #[]))
  have c0 : w1.cell? ⟨w.heap.size, 0, none⟩ = some Value.nilFunc := by rw [← hw1]; exact cell_of_row _ _ 0 _ _ _ (heap_alloc_last _ _)
  have c1 : w1.cell? ⟨w.heap.size, 1, none⟩ = some Value.nilFunc := by rw [← hw1]; exact cell_of_row _ _ 1 _ _ _ (heap_alloc_last _ _)
  have ff : ∀ q, w1.frozen? ⟨w.heap.size, q, none⟩ = false := by rw [← hw1]; exact fun q => frozen_of_row _ _ q _ _ (heap_alloc_last _ _)
  have hw : w1.heap[w.heap.size]? = some (.cells #[Value.nilFunc, Value.nilFunc] 91) := by rw [← hw1]; exact heap_alloc_last _ _
  have HW := Lib.hid (And.intro hw (show Kept [] w w1 by rw [← hw1]; exact Kept.alloc _ _ _))
  have HP := Lib.hid (pruleOfValue_15 w1)
  clear c0 c1 ff hw HZ
  go_enter Tryz.func57, Tryz.ntmps57
  go_wp2_with fail
  refine HP.out.mono ?_
  unfold rlV
  rintro e w2 ⟨rfl, hk⟩
  have hr := hk.heap (by simp) HW.out.1
  have HZ := Lib.hid (rl_put2 hr (HW.out.2.trans hk) (.func (.func 128) #[] #[]) (.func (.func 94) #[] #[]))
  have c0 : w2.cell? ⟨w.heap.size, 0, none⟩ = some Value.nilFunc := cell_of_row _ _ 0 _ _ _ hr
  have c1 : w2.cell? ⟨w.heap.size, 1, none⟩ = some Value.nilFunc := cell_of_row _ _ 1 _ _ _ hr
  have ff : ∀ q, w2.frozen? ⟨w.heap.size, q, none⟩ = false := fun q => frozen_of_row _ _ q _ _ hr
  clear hk hr hw1
  go_wp2_with fail
  refine bodyPost_ret_by (results_rowQ (p := 2) (u := 3) rfl _ _ w.heap.size 91 _ _ rfl HZ.out.1 Tryz.underlying91 rfl (by kernel_rfl)) rfl ?_
  exact ⟨rfl, HZ.out.2⟩
set_option maxRecDepth 100000 in
set_option maxHeartbeats 2000000 in
theorem pruleOf_16 : RuleC 57 16 92 94 := by
  intro w
  have hsf := store_fn
  obtain ⟨w1, hw1⟩ : ∃ w1, w.alloc (.cells #[Value.nilFunc, Value.nilFunc] 91) = w1 := ⟨_, rfl⟩
  have HZ := Lib.hid (rl_put hw1 (.func (.func 92) #[] #[]) (.func (.func 94) #[] #[]))
  have c0 : w1.cell? ⟨w.heap.size, 0, none⟩ = some Value.nilFunc := by rw [← hw1]; exact cell_of_row _ _ 0 _ _ _ (heap_alloc_last _ _)
  have c1 : w1.cell? ⟨w.heap.size, 1, none⟩ = some Value.nilFunc := by rw [← hw1]; exact cell_of_row _ _ 1 _ _ _ (heap_alloc_last _ _)
  have ff : ∀ q, w1.frozen? ⟨w.heap.size, q, none⟩ = false := by rw [← hw1]; exact fun q => frozen_of_row _ _ q _ _ (heap_alloc_last _ _)
  have hw : w1.heap[w.heap.size]? = some (.cells #[Value.nilFunc, Value.nilFunc] 91) := by rw [← hw1]; exact heap_alloc_last _ _
  have HW := Lib.hid (And.intro hw (show Kept [] w w1 by rw [← hw1]; exact Kept.alloc _ _ _))
  have HP := Lib.hid (pruleOfValue_16 w1)
  clear c0 c1 ff hw HZ
  go_enter Tryz.func57, Tryz.ntmps57
  go_wp2_with fail
  refine HP.out.mono ?_
  unfold rlV
  rintro e w2 ⟨rfl, hk⟩
  have hr := hk.heap (by simp) HW.out.1
  have HZ := Lib.hid (rl_put2 hr (HW.out.2.trans hk) (.func (.func 92) #[] #[]) (.func (.func 94) #[] #[]))
  have c0 : w2.cell? ⟨w.heap.size, 0, none⟩ = some Value.nilFunc := cell_of_row _ _ 0 _ _ _ hr
  have c1 : w2.cell? ⟨w.heap.size, 1, none⟩ = some Value.nilFunc := cell_of_row _ _ 1 _ _ _ hr
  have ff : ∀ q, w2.frozen? ⟨w.heap.size, q, none⟩ = false := fun q => frozen_of_row _ _ q _ _ hr
  clear hk hr hw1
  go_wp2_with fail
  refine bodyPost_ret_by (results_rowQ (p := 2) (u := 3) rfl _ _ w.heap.size 91 _ _ rfl HZ.out.1 Tryz.underlying91 rfl (by kernel_rfl)) rfl ?_
  exact ⟨rfl, HZ.out.2⟩
set_option maxRecDepth 100000 in
set_option maxHeartbeats 2000000 in
theorem pruleOf_17 : RuleC 57 17 88 94 := by
  intro w
  have hsf := store_fn
  obtain ⟨w1, hw1⟩ : ∃ w1, w.alloc (.cells #[Value.nilFunc, Value.nilFunc] 91) = w1 := ⟨_, rfl⟩
  have HZ := Lib.hid (rl_put hw1 (.func (.func 88) #[] #[]) (.func (.func 94) #[] #[]))
  have c0 : w1.cell? ⟨w.heap.size, 0, none⟩ = some Value.nilFunc := by rw [← hw1]; exact cell_of_row _ _ 0 _ _ _ (heap_alloc_last _ _)
  have c1 : w1.cell? ⟨w.heap.size, 1, none⟩ = some Value.nilFunc := by rw [← hw1]; exact cell_of_row _ _ 1 _ _ _ (heap_alloc_last _ _)
  have ff : ∀ q, w1.frozen? ⟨w.heap.size, q, none⟩ = false := by rw [← hw1]; exact fun q => frozen_of_row _ _ q _ _ (heap_alloc_last _ _)
  have hw : w1.heap[w.heap.size]? = some (.cells #[Value.nilFunc, Value.nilFunc] 91) := by rw [← hw1]; exact heap_alloc_last _ _
  have HW := Lib.hid (And.intro hw (show Kept [] w w1 by rw [← hw1]; exact Kept.alloc _ _ _))
  have HP := Lib.hid (pruleOfValue_17 w1)
  clear c0 c1 ff hw HZ
  go_enter Tryz.func57, Tryz.ntmps57
  go_wp2_with fail
  refine HP.out.mono ?_
  unfold rlV
  rintro e w2 ⟨rfl, hk⟩
  have hr := hk.heap (by simp) HW.out.1
  have HZ := Lib.hid (rl_put2 hr (HW.out.2.trans hk) (.func (.func 88) #[] #[]) (.func (.func 94) #[] #[]))
  have c0 : w2.cell? ⟨w.heap.size, 0, none⟩ = some Value.nilFunc := cell_of_row _ _ 0 _ _ _ hr
  have c1 : w2.cell? ⟨w.heap.size, 1, none⟩ = some Value.nilFunc := cell_of_row _ _ 1 _ _ _ hr
  have ff : ∀ q, w2.frozen? ⟨w.heap.size, q, none⟩ = false := fun q => frozen_of_row _ _ q _ _ hr
  clear hk hr hw1
  go_wp2_with fail
  refine bodyPost_ret_by (results_rowQ (p := 2) (u := 3) rfl _ _ w.heap.size 91 _ _ rfl HZ.out.1 Tryz.underlying91 rfl (by kernel_rfl)) rfl ?_
  exact ⟨rfl, HZ.out.2⟩
set_option maxRecDepth 100000 in
set_option maxHeartbeats 2000000 in
theorem pruleOf_18 : RuleC 57 18 88 94 := by
  intro w
  have hsf := store_fn
  obtain ⟨w1, hw1⟩ : ∃ w1, w.alloc (.cells #[Value.nilFunc, Value.nilFunc] 91) = w1 := ⟨_, rfl⟩
  have HZ := Lib.hid (rl_put hw1 (.func (.func 88) #[] #[]) (.func (.func 94) #[] #[]))
  have c0 : w1.cell? ⟨w.heap.size, 0, none⟩ = some Value.nilFunc := by rw [← hw1]; exact cell_of_row _ _ 0 _ _ _ (heap_alloc_last _ _)
  have c1 : w1.cell? ⟨w.heap.size, 1, none⟩ = some Value.nilFunc := by rw [← hw1]; exact cell_of_row _ _ 1 _ _ _ (heap_alloc_last _ _)
  have ff : ∀ q, w1.frozen? ⟨w.heap.size, q, none⟩ = false := by rw [← hw1]; exact fun q => frozen_of_row _ _ q _ _ (heap_alloc_last _ _)
  have hw : w1.heap[w.heap.size]? = some (.cells #[Value.nilFunc, Value.nilFunc] 91) := by rw [← hw1]; exact heap_alloc_last _ _
  have HW := Lib.hid (And.intro hw (show Kept [] w w1 by rw [← hw1]; exact Kept.alloc _ _ _))
  have HP := Lib.hid (pruleOfValue_18 w1)
  clear c0 c1 ff hw HZ
  go_enter Tryz.func57, Tryz.ntmps57
  go_wp2_with fail
  refine HP.out.mono ?_
  unfold rlV
  rintro e w2 ⟨rfl, hk⟩
  have hr := hk.heap (by simp) HW.out.1
  have HZ := Lib.hid (rl_put2 hr (HW.out.2.trans hk) (.func (.func 88) #[] #[]) (.func (.func 94) #[] #[]))
  have c0 : w2.cell? ⟨w.heap.size, 0, none⟩ = some Value.nilFunc := cell_of_row _ _ 0 _ _ _ hr
  have c1 : w2.cell? ⟨w.heap.size, 1, none⟩ = some Value.nilFunc := cell_of_row _ _ 1 _ _ _ hr
  have ff : ∀ q, w2.frozen? ⟨w.heap.size, q, none⟩ = false := fun q => frozen_of_row _ _ q _ _ hr
  clear hk hr hw1
  go_wp2_with fail
  refine bodyPost_ret_by (results_rowQ (p := 2) (u := 3) rfl _ _ w.heap.size 91 _ _ rfl HZ.out.1 Tryz.underlying91 rfl (by kernel_rfl)) rfl ?_
  exact ⟨rfl, HZ.out.2⟩
set_option maxRecDepth 100000 in
set_option maxHeartbeats 2000000 in
theorem pruleOf_19 : RuleC 57 19 129 130 := by
  intro w
  have hsf := store_fn
  obtain ⟨w1, hw1⟩ : ∃ w1, w.alloc (.cells #[Value.nilFunc, Value.nilFunc] 91) = w1 := ⟨_, rfl⟩
  have HZ := Lib.hid (rl_put hw1 (.func (.func 129) #[] #[]) (.func (.func 130) #[] #[]))
  have c0 : w1.cell? ⟨w.heap.size, 0, none⟩ = some Value.nilFunc := by rw [← hw1]; exact cell_of_row _ _ 0 _ _ _ (heap_alloc_last _ _)
  have c1 : w1.cell? ⟨w.heap.size, 1, none⟩ = some Value.nilFunc := by rw [← hw1]; exact cell_of_row _ _ 1 _ _ _ (heap_alloc_last _ _)
  have ff : ∀ q, w1.frozen? ⟨w.heap.size, q, none⟩ = false := by rw [← hw1]; exact fun q => frozen_of_row _ _ q _ _ (heap_alloc_last _ _)
  have hw : w1.heap[w.heap.size]? = some (.cells #[Value.nilFunc, Value.nilFunc] 91) := by rw [← hw1]; exact heap_alloc_last _ _
  have HW := Lib.hid (And.intro hw (show Kept [] w w1 by rw [← hw1]; exact Kept.alloc _ _ _))
  have HP := Lib.hid (pruleOfValue_19 w1)
  clear c0 c1 ff hw HZ
  go_enter Tryz.func57, Tryz.ntmps57
  go_wp2_with fail
  refine HP.out.mono ?_
  unfold rlV
  rintro e w2 ⟨rfl, hk⟩
  have hr := hk.heap (by simp) HW.out.1
  have HZ := Lib.hid (rl_put2 hr (HW.out.2.trans hk) (.func (.func 129) #[] #[]) (.func (.func 130) #[] #[]))
  have c0 : w2.cell? ⟨w.heap.size, 0, none⟩ = some Value.nilFunc := cell_of_row _ _ 0 _ _ _ hr
  have c1 : w2.cell? ⟨w.heap.size, 1, none⟩ = some Value.nilFunc := cell_of_row _ _ 1 _ _ _ hr
  have ff : ∀ q, w2.frozen? ⟨w.heap.size, q, none⟩ = false := fun q => frozen_of_row _ _ q _ _ hr
  clear hk hr hw1
  go_wp2_with fail
  refine bodyPost_ret_by (results_rowQ (p := 2) (u := 3) rfl _ _ w.heap.size 91 _ _ rfl HZ.out.1 Tryz.underlying91 rfl (by kernel_rfl)) rfl ?_
  exact ⟨rfl, HZ.out.2⟩
set_option maxRecDepth 100000 in
set_option maxHeartbeats 2000000 in
theorem pruleOf_20 : RuleC 57 20 88 95 := by
  intro w
  have hsf := store_fn
  obtain ⟨w1, hw1⟩ : ∃ w1, w.alloc (.cells #[Value.nilFunc, Value.nilFunc] 91) = w1 := ⟨_, rfl⟩
  have HZ := Lib.hid (rl_put hw1 (.func (.func 88) #[] #[]) (.func (.func 95) #[] #[]))
  have c0 : w1.cell? ⟨w.heap.size, 0, none⟩ = some Value.nilFunc := by rw [← hw1]; exact cell_of_row _ _ 0 _ _ _ (heap_alloc_last _ _)
  have c1 : w1.cell? ⟨w.heap.size, 1, none⟩ = some Value.nilFunc := by rw [← hw1]; exact cell_of_row _ _ 1 _ _ _ (heap_alloc_last _ _)
  have ff : ∀ q, w1.frozen? ⟨w.heap.size, q, none⟩ = false := by rw [← hw1]; exact fun q => frozen_of_row _ _ q _ _ (heap_alloc_last _ _)
  have hw : w1.heap[w.heap.size]? = some (.cells #[Value.nilFunc, Value.nilFunc] 91) := by rw [← hw1]; exact heap_alloc_last _ _
  have HW := Lib.hid (And.intro hw (show Kept [] w w1 by rw [← hw1]; exact Kept.alloc _ _ _))
  have HP := Lib.hid (pruleOfValue_20 w1)
  clear c0 c1 ff hw HZ
  go_enter Tryz.func57, Tryz.ntmps57
  go_wp2_with fail
  refine HP.out.mono ?_
  unfold rlV
  rintro e w2 ⟨rfl, hk⟩
  have hr := hk.heap (by simp) HW.out.1
  have HZ := Lib.hid (rl_put2 hr (HW.out.2.trans hk) (.func (.func 88) #[] #[]) (.func (.func 95) #[] #[]))
  have c0 : w2.cell? ⟨w.heap.size, 0, none⟩ = some Value.nilFunc := cell_of_row _ _ 0 _ _ _ hr
  have c1 : w2.cell? ⟨w.heap.size, 1, none⟩ = some Value.nilFunc := cell_of_row _ _ 1 _ _ _ hr
  have ff : ∀ q, w2.frozen? ⟨w.heap.size, q, none⟩ = false := fun q => frozen_of_row _ _ q _ _ hr
  clear hk hr hw1
  go_wp2_with fail
  refine bodyPost_ret_by (results_rowQ (p := 2) (u := 3) rfl _ _ w.heap.size 91 _ _ rfl HZ.out.1 Tryz.underlying91 rfl (by kernel_rfl)) rfl ?_
  exact ⟨rfl, HZ.out.2⟩
end Go.Proofs.YtfpdgdacifiejaaGreat

namespace Go.Proofs.YtfpdgdacifiejaaGreat
open Go.RowKit Go.Maps

/-- A node is as its rule asks. -/
structure NodOk (ns : List Nod) (nd : Nod) (lab bel : FuncId) : Prop where
  rule : RuleC 57 nd.kd lab bel
  labC : LabC lab nd.tx
  belC : BelC bel (nd.ks.map (kdN ns))
  el : Enters Tryz.prog lab
  eb : Enters Tryz.prog bel
  few : nd.ks.length ≤ 5000
  kids : ∀ k ∈ nd.ks, k < ns.length
set_option maxRecDepth 100000 in
set_option maxHeartbeats 8000000 in
theorem psound_any (v lv : Value) (ns : List Nod) (nd : Nod) (lab bel : FuncId) (w : World) (h : NdIs w v ns) (hk : KsIs w lv nd.ks) (hn : NodOk ns nd lab bel) :
    Calls Tryz.prog 31 #[v, .agg #[.int .i64 (nd.kd : Int), .string (strL nd.tx), lv]] w fun e w' => e = .returned (.bool true) ∧ Kept [] w w' := by
  have HNS := Lib.hid h
  have HKS := Lib.hid hk
  have HNO := Lib.hid hn
  have hEl : ∀ (args : Array Value) (w : World), (callFunc lab args).run Tryz.prog w = .ok (.enter lab args) w := hn.el
  have hEb : ∀ (args : Array Value) (w : World), (callFunc bel args).run Tryz.prog w = .ok (.enter bel args) w := hn.eb
  obtain ⟨na, nc, hv⟩ : ∃ a c, v = .slice a ns.length c := by obtain ⟨a, c, e, _⟩ := h; exact ⟨a, c, e⟩
  obtain ⟨la, lc, hlv⟩ : ∃ a c, lv = .slice a nd.ks.length c := by obtain ⟨a, c, e, _⟩ := hk; exact ⟨a, c, e⟩
  obtain ⟨N, hN⟩ : ∃ N, ns.length = N := ⟨_, rfl⟩
  obtain ⟨m, hm⟩ : ∃ m, nd.ks.length = m := ⟨_, rfl⟩
  rw [hN] at hv
  rw [hm] at hlv
  subst hv hlv
  obtain ⟨w1, hw1⟩ : ∃ w1, w.alloc (.cells #[.int .i64 (nd.kd : Int), .string (strL nd.tx), .slice la m lc] 41) = w1 := ⟨_, rfl⟩
  have H1 : Hid (Kept [] w w1 ∧ w1.heap[w.heap.size]? = some (.cells #[.int .i64 (nd.kd : Int), .string (strL nd.tx), .slice la m lc] 41)) := by
    rw [← hw1]
    exact ⟨Kept.alloc _ _ _, heap_alloc_last _ _⟩
  have a0 : w1.cell? ⟨w.heap.size, 0, none⟩ = some (.int .i64 (nd.kd : Int)) := cell_of_row _ _ 0 _ _ _ H1.out.2
  clear h hk hn hN hm
  go_enter Tryz.func31, Tryz.ntmps31
  go_wp2_with fail
  refine (HNO.out.rule w1).mono ?_
  unfold rlV
  rintro e w2 ⟨rfl, hk2⟩
  obtain ⟨wa, hwa⟩ : ∃ wa, w2.alloc (.cells #[Value.nilFunc, Value.nilFunc] 91) = wa := ⟨_, rfl⟩
  have hpt := rl_put hwa (.func (.func lab) #[] #[]) (.func (.func bel) #[] #[])
  have hsf := store_fn
  have c0 : wa.cell? ⟨w2.heap.size, 0, none⟩ = some Value.nilFunc := by rw [← hwa]; exact cell_of_row _ _ 0 _ _ _ (heap_alloc_last _ _)
  have c1 : wa.cell? ⟨w2.heap.size, 1, none⟩ = some Value.nilFunc := by rw [← hwa]; exact cell_of_row _ _ 1 _ _ _ (heap_alloc_last _ _)
  have ff : ∀ q, wa.frozen? ⟨w2.heap.size, q, none⟩ = false := by rw [← hwa]; exact fun q => frozen_of_row _ _ q _ _ (heap_alloc_last _ _)
  obtain ⟨w3, hw3⟩ : ∃ w3, (wa.setCell ⟨w2.heap.size, 0, none⟩ (.func (.func lab) #[] #[])).setCell ⟨w2.heap.size, 1, none⟩ (.func (.func bel) #[] #[]) = w3 := ⟨_, rfl⟩
  rw [hw3] at hpt
  have H3 : Hid (Kept [] w w3 ∧ w3.heap[w.heap.size]? = some (.cells #[.int .i64 (nd.kd : Int), .string (strL nd.tx), .slice la m lc] 41) ∧ w3.heap[w2.heap.size]? = some (.cells #[.func (.func lab) #[] #[], .func (.func bel) #[] #[]] 91)) :=
    ⟨(H1.out.1.trans hk2).trans hpt.2, hpt.2.heap (by simp) (hk2.heap (by simp) H1.out.2), hpt.1⟩
  clear hk2 a0 hw1 H1 hpt
  have HZ : Hid (∀ w', Kept [] w3 w' → w'.cell? ⟨w.heap.size, 1, none⟩ = some (.string (strL nd.tx)) ∧ w'.cell? ⟨w.heap.size, 2, none⟩ = some (.slice la m lc) ∧ w'.cell? ⟨w2.heap.size, 0, none⟩ = some (.func (.func lab) #[] #[]) ∧ w'.cell? ⟨w2.heap.size, 1, none⟩ = some (.func (.func bel) #[] #[])) := fun w' hk => by
    have r1 := hk.heap (by simp) H3.out.2.1
    have r2 := hk.heap (by simp) H3.out.2.2
    exact ⟨cell_of_row _ _ 1 _ _ _ r1, cell_of_row _ _ 2 _ _ _ r1, cell_of_row _ _ 0 _ _ _ r2, cell_of_row _ _ 1 _ _ _ r2⟩
  go_wp2_with fail
  clear c0 c1 ff hsf hw3 hwa
  have z1 : ∀ w', Imp (Kept [] w3) w3.drew w' → w'.cell? ⟨w.heap.size, 1, none⟩ = some (.string (strL nd.tx)) := fun w' hk => (HZ.out w' (hk (Kept.drew _ _))).1
  have z2 : ∀ w', Imp (Kept [] w3) w3.drew w' → w'.cell? ⟨w.heap.size, 2, none⟩ = some (.slice la m lc) := fun w' hk => (HZ.out w' (hk (Kept.drew _ _))).2.1
  have z3 : ∀ w', Imp (Kept [] w3) w3.drew w' → w'.cell? ⟨w2.heap.size, 0, none⟩ = some (.func (.func lab) #[] #[]) := fun w' hk => (HZ.out w' (hk (Kept.drew _ _))).2.2.1
  have z4 : ∀ w', Imp (Kept [] w3) w3.drew w' → w'.cell? ⟨w2.heap.size, 1, none⟩ = some (.func (.func bel) #[] #[]) := fun w' hk => (HZ.out w' (hk (Kept.drew _ _))).2.2.2
  refine wp_region_ordR (R := Imp (Kept [] w3)) [(true, 0), (true, 1), (true, 2), (true, 3), (true, 4), (true, 5), (true, 6), (false, 7), (false, 8), (true, 9), (true, 10), (true, 11), (true, 12), (true, 13), (true, 14), (false, 15), (true, 16), (true, 17)] (fun _ => Imp.refl _ _) (fun _ _ _ h k => Imp.trans h k) (by kernel_rfl) (fun _ _ d _ _ h => by cases d <;> exact h) (by kernel_rfl) rfl (by kernel_rfl) (by kernel_rfl) ?_
  simp only [named, List.getD_cons_zero, List.getD_cons_succ]
  repeat (first | (apply wpR_take; (case hw => rfl); (case hv => intro w' hk; go_simp; with_reducible rfl); simp only [Act.put, List.setIfInBounds_toArray, List.set_cons_zero, List.set_cons_succ]) | (refine wpR_pass (by rfl) ?_; simp only [Act.put, List.setIfInBounds_toArray, List.set_cons_zero, List.set_cons_succ]))
  clear z1 z2 z3 z4
  refine wpR_force (by rfl) (fun K hK => ?_)
  go_simp
  refine (pkindsOf_any _ _ ns nd.ks w3.drew (HNS.out.kept (H3.out.1.trans (Kept.drew _ _))) (HKS.out.kept (H3.out.1.trans (Kept.drew _ _))) HNO.out.kids HNO.out.few).mono ?_
  rintro e w4 ⟨vk, rfl, hkn, hk4⟩
  refine hK _ _ (fun hh => hh.trans hk4) ?_
  clear hK K
  have H4 : Hid (KnIs w4 vk (nd.ks.map (kdN ns)) ∧ Kept [] w3 w4) := ⟨hkn, (Kept.drew _ _).trans hk4⟩
  clear hkn hk4
  refine wpR_force (by rfl) (fun K hK => ?_)
  go_simp
  refine (HNO.out.belC w4 vk H4.out.1).mono ?_
  rintro e w5 ⟨rfl, hk5⟩
  refine hK _ _ (fun hh => hh.trans hk5) ?_
  clear hK K
  have H5 : Hid (Kept [] w3 w5) := H4.out.2.trans hk5
  clear hk5 H4
  have z1 : ∀ w', Imp (Kept [] w3) w5 w' → w'.cell? ⟨w.heap.size, 1, none⟩ = some (.string (strL nd.tx)) := fun w' hk => (HZ.out w' (hk H5.out)).1
  have z3 : ∀ w', Imp (Kept [] w3) w5 w' → w'.cell? ⟨w2.heap.size, 0, none⟩ = some (.func (.func lab) #[] #[]) := fun w' hk => (HZ.out w' (hk H5.out)).2.2.1
  repeat (first | (apply wpR_take; (case hw => rfl); (case hv => intro w' hk; go_simp; with_reducible rfl); simp only [Act.put, List.setIfInBounds_toArray, List.set_cons_zero, List.set_cons_succ]) | (refine wpR_pass (by rfl) ?_; simp only [Act.put, List.setIfInBounds_toArray, List.set_cons_zero, List.set_cons_succ]))
  clear z1 z3
  refine wpR_force (by rfl) (fun K hK => ?_)
  go_simp
  refine (HNO.out.labC w5).mono ?_
  rintro e w6 ⟨rfl, hk6⟩
  refine hK _ _ (fun hh => hh.trans hk6) ?_
  clear hK K
  have H6 : Hid (Kept [] w3 w6) := H5.out.trans hk6
  clear hk6 H5
  repeat (first | (apply wpR_take; (case hw => rfl); (case hv => intro w' hk; go_simp; with_reducible rfl); simp only [Act.put, List.setIfInBounds_toArray, List.set_cons_zero, List.set_cons_succ]) | (refine wpR_pass (by rfl) ?_; simp only [Act.put, List.setIfInBounds_toArray, List.set_cons_zero, List.set_cons_succ]))
  refine wpR_nil ?_
  go_wp2_with fail
  go_ret
  exact ⟨rfl, H3.out.1.trans H6.out⟩
end Go.Proofs.YtfpdgdacifiejaaGreat
