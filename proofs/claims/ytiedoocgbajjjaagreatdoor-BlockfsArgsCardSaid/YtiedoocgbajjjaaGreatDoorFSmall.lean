/-
  Layer 4: Open and Format of a disk that is too small for a tree.
  Conditions: those that each theorem states.
-/
import Derived.Test.YtiedoocgbajjjaaGreatDoorFOpen
namespace Go.Proofs.YtiedoocgbajjjaaGreatDoor
open Go.RowKit Go.Maps
set_option maxRecDepth 100000

set_option maxRecDepth 100000 in
set_option maxHeartbeats 4000000 in
theorem bOpen_small (d : Nat) (S : DiskS) (w : World) (h : IsDisk w d S) (hs : S.size < 512) :
    Calls Tryz.prog 12 #[.pointer (some ⟨d, 0, none⟩)] w fun e w' => e = .returned (.tuple #[.pointer none, .int .i64 1]) ∧ Kept [] w w' := by
  have hmf : ∀ (fn : Fn) (first cap : Array Value) (w : World), (Instr.makeFunc fn first cap).run Tryz.prog w = .ok (.func fn first cap) w := fun _ _ _ _ => rfl
  obtain ⟨w1, hw1⟩ : ∃ w1, (w.alloc (.cells #[.pointer none] 29)).alloc (.cells #[.int .i64 0] 25) = w1 := ⟨_, rfl⟩
  have HK1 : Hid (Kept [] w w1) := by show Kept _ _ _; rw [← hw1]; exact (Kept.alloc [] _ _).trans (Kept.alloc [] _ _)
  have HV1 : Hid (TwoV w.heap.size #[.pointer none] 29 (.int .i64 0) w1) := by
    rw [← hw1]
    exact ⟨(Kept.alloc [] _ _).heap (by simp) (heap_alloc_last _ _), by rw [← size_alloc]; exact heap_alloc_last _ _⟩
  have HLN := Lib.hid (len_any d S w1 (h.kept HK1.out (by simp) (by simp)))
  have HOF := Lib.hid (of_no S.size w1 (.inl hs))
  unfold lay0 at HOF
  obtain ⟨gc, hgc⟩ : ∃ gc, w.heap.size = gc := ⟨_, rfl⟩
  have HGC := Lib.hid hgc
  have HW1 := Lib.hid hw1
  rw [hgc] at HV1
  clear h hs hgc hw1
  go_enter_defers Tryz.func12, Tryz.ntmps12
  go_wp2_with fail
  rw [HW1.out, HGC.out]
  refine HLN.out.mono ?_
  rintro e w2 ⟨rfl, rfl⟩
  go_wp2_with fail
  refine HOF.out.mono ?_
  rintro e w2 ⟨rfl, hk2⟩
  have hva := (HV1.out.go hk2).go (Kept.alloc [] w2 (.cells #[.int .i64 0, .int .i64 0, .int .i64 0, .int .i64 0, .int .i64 0, .int .i64 0, .int .i64 0, .int .i64 0] 60))
  have e0 := cell_of_row _ (gc + 1) 0 _ _ _ hva.e
  have fe := fun q => frozen_of_row _ (gc + 1) q _ _ hva.e
  have hv4 := hva.setE (.int .i64 1)
  obtain ⟨w4, hw4⟩ : ∃ w4, ((w2.alloc (.cells #[.int .i64 0, .int .i64 0, .int .i64 0, .int .i64 0, .int .i64 0, .int .i64 0, .int .i64 0, .int .i64 0] 60)).setCell ⟨gc + 1, 0, none⟩ (.int .i64 1)) = w4 := ⟨_, rfl⟩
  have f0 : ((w2.alloc (.cells #[.int .i64 0, .int .i64 0, .int .i64 0, .int .i64 0, .int .i64 0, .int .i64 0, .int .i64 0, .int .i64 0] 60)).setCell ⟨gc + 1, 0, none⟩ (.int .i64 1)).cell? ⟨gc + 1, 0, none⟩ = some (.int .i64 1) := cell_of_row _ _ 0 _ _ _ hv4.1.e
  rw [hw4] at hv4
  have f1 : w4.cell? ⟨gc + 1, 0, none⟩ = some (.int .i64 1) := cell_of_row _ _ 0 _ _ _ hv4.1.e
  have f2 : w4.cell? ⟨gc, 0, none⟩ = some (.pointer none) := cell_of_row _ _ 0 _ _ _ hv4.1.c
  have ff : ∀ q, w4.frozen? ⟨gc + 1, q, none⟩ = false := fun q => frozen_of_row _ _ q _ _ hv4.1.e
  have fg : ∀ q, w4.frozen? ⟨gc, q, none⟩ = false := fun q => frozen_of_row _ _ q _ _ hv4.1.c
  have HV4 := Lib.hid (And.intro hv4 ((HK1.out.trans hk2).trans (Kept.alloc [] w2 (.cells #[.int .i64 0, .int .i64 0, .int .i64 0, .int .i64 0, .int .i64 0, .int .i64 0, .int .i64 0, .int .i64 0] 60))))
  have HW4 := Lib.hid hw4
  clear hk2 hva hv4 hw4
  go_wp2_with fail
  rw [HW4.out]
  go_wp2_with fail
  go_region
  go_wp2_with fail
  have h5 := HV4.out.1.1.setC 0 (.pointer none)
  have h6 := h5.1.setE (.int .i64 1)
  refine open_door gc _ 1 _ _ _ h6.1.drew rfl rfl ⟨rfl, ?_⟩
  exact HV4.out.2.into (HV4.out.1.2.trans (h5.2.trans (h6.2.trans (Kept.drew _ _)))) (by have := HGC.out; simp; omega)

set_option maxRecDepth 100000 in
set_option maxHeartbeats 4000000 in
theorem bFormat_small (d : Nat) (S : DiskS) (w : World) (h : IsDisk w d S) (hs : S.size < 512) :
    Calls Tryz.prog 13 #[.pointer (some ⟨d, 0, none⟩)] w fun e w' => e = .returned (.int .i64 1) ∧ Kept [] w w' := by
  have hmf : ∀ (fn : Fn) (first cap : Array Value) (w : World), (Instr.makeFunc fn first cap).run Tryz.prog w = .ok (.func fn first cap) w := fun _ _ _ _ => rfl
  obtain ⟨gc, hgc⟩ : ∃ gc, w.heap.size = gc := ⟨_, rfl⟩
  obtain ⟨w1, hw1⟩ : ∃ w1, w.alloc (.cells #[.int .i64 0] 25) = w1 := ⟨_, rfl⟩
  have HK1 : Hid (Kept [] w w1 ∧ w1.heap[gc]? = some (.cells #[.int .i64 0] 25)) := by show _ ∧ _; rw [← hw1, ← hgc]; exact ⟨Kept.alloc _ _ _, heap_alloc_last _ _⟩
  have HGC := Lib.hid hgc
  have HW1 := Lib.hid hw1
  have HLN := Lib.hid (len_any d S w1 (h.kept HK1.out.1 (by simp) (by simp)))
  have HOF := Lib.hid (of_no S.size w1 (.inl hs))
  unfold lay0 at HOF
  clear h hs hgc hw1
  go_enter_defers Tryz.func13, Tryz.ntmps13
  go_wp2_with fail
  rw [HW1.out, HGC.out]
  refine HLN.out.mono ?_
  rintro e w2 ⟨rfl, rfl⟩
  go_wp2_with fail
  refine HOF.out.mono ?_
  rintro e w2 ⟨rfl, hk2⟩
  have hrow : (w2.alloc (.cells #[.int .i64 0, .int .i64 0, .int .i64 0, .int .i64 0, .int .i64 0, .int .i64 0, .int .i64 0, .int .i64 0] 60)).heap[gc]? = some (.cells #[.int .i64 0] 25) := (hk2.trans (Kept.alloc [] _ _)).heap (by simp) HK1.out.2
  have e0 := cell_of_row _ gc 0 _ _ _ hrow
  have fe := fun q => frozen_of_row _ gc q _ _ hrow
  obtain ⟨w4, hw4⟩ : ∃ w4, ((w2.alloc (.cells #[.int .i64 0, .int .i64 0, .int .i64 0, .int .i64 0, .int .i64 0, .int .i64 0, .int .i64 0, .int .i64 0] 60)).setCell ⟨gc, 0, none⟩ (.int .i64 1)) = w4 := ⟨_, rfl⟩
  have hr4 : ((w2.alloc (.cells #[.int .i64 0, .int .i64 0, .int .i64 0, .int .i64 0, .int .i64 0, .int .i64 0, .int .i64 0, .int .i64 0] 60)).setCell ⟨gc, 0, none⟩ (.int .i64 1)).heap[gc]? = some (.cells #[.int .i64 1] 25) := rowSet hrow 0 _
  have f0 : ((w2.alloc (.cells #[.int .i64 0, .int .i64 0, .int .i64 0, .int .i64 0, .int .i64 0, .int .i64 0, .int .i64 0, .int .i64 0] 60)).setCell ⟨gc, 0, none⟩ (.int .i64 1)).cell? ⟨gc, 0, none⟩ = some (.int .i64 1) := cell_of_row _ _ 0 _ _ _ hr4
  have hk4 : Kept [gc] w2 w4 := by rw [← hw4]; exact (Kept.alloc _ _ _).trans (Kept.setCell _ _ _ _ (by simp))
  rw [hw4] at hr4
  have f1 : w4.cell? ⟨gc, 0, none⟩ = some (.int .i64 1) := cell_of_row _ _ 0 _ _ _ hr4
  have ff : ∀ q, w4.frozen? ⟨gc, q, none⟩ = false := fun q => frozen_of_row _ _ q _ _ hr4
  have HK4 : Hid (Kept [] w w4 ∧ w4.heap[gc]? = some (.cells #[.int .i64 1] 25)) := ⟨(HK1.out.1.trans hk2).into hk4 (by have := HGC.out; simp; omega), hr4⟩
  have HW4 := Lib.hid hw4
  clear hk2 hrow hr4 hk4 hw4
  go_wp2_with fail
  rw [HW4.out]
  go_wp2_with fail
  refine fmt_door gc 1 _ _ _ (rowSet HK4.out.2 0 _) rfl ⟨rfl, ?_⟩
  exact HK4.out.1.into (Kept.setCell [gc] w4 ⟨gc, 0, none⟩ _ (by simp)) (by have := HGC.out; simp; omega)
end Go.Proofs.YtiedoocgbajjjaaGreatDoor
