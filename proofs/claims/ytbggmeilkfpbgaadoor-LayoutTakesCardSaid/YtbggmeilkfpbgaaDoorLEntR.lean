/-
  Layer 3: the record of an entry (entryRecord).
  Conditions: those that each theorem states.
-/
import Derived.Test.YtbggmeilkfpbgaaDoorLEnt
import Derived.Deep.Cut
import Derived.Lib.BufferWrite
namespace Go.Proofs.YtbggmeilkfpbgaaDoor
open Go.RowKit Go.Maps

/-- An entry's 32 bytes. -/
def entL (n : Nat) (p : List UInt8) : List UInt8 := loB n :: loB p.length :: (p ++ zerosL (30 - p.length))
theorem entL_length {n : Nat} {p : List UInt8} (h : p.length ≤ 30) : (entL n p).length = 32 := by simp [entL, zerosL]; omega

structure ErSt (w : World) (n : Nat) (p : List UInt8) (wr : World) : Prop where
  x : wr.heap[w.heap.size]? = some (.cells #[.int .i64 n, .string (strL p)] 38)
  r : wr.heap[w.heap.size + 1]? = some (.cells (bvA (zerosL 32)) 55)
  kept : Kept [] w wr
theorem ErSt.go {w : World} {n : Nat} {p : List UInt8} {wr w' : World} (h : ErSt w n p wr) (hk : Kept [] wr w') : ErSt w n p w' :=
  ⟨hk.heap (by simp) h.x, hk.heap (by simp) h.r, h.kept.trans hk⟩

set_option maxRecDepth 100000 in
set_option maxHeartbeats 2000000 in
theorem entryRecord_any (n : Nat) (p : List UInt8) (w : World) (hn : n < 256) (hp : p.length ≤ 30) :
    Calls Tryd.prog 35 #[.agg #[.int .i64 n, .string (strL p)]] w fun e w' => e = .returned (.agg (bvA (entL n p))) ∧ Kept [] w w' := by
  go_enter Tryd.func35, Tryd.ntmps35
  go_upto_region 1 with (fail)
  generalize hw2 : World.alloc (World.alloc w _) _ = w2
  have HS : Hid (ErSt w n p w2) := by
    rw [← hw2]
    refine ⟨(Kept.alloc [] _ _).heap (by simp) (heap_alloc_last w _), ?_, (Kept.alloc _ _ _).trans (Kept.alloc _ _ _)⟩
    have := heap_alloc_last (w.alloc (.cells #[.int .i64 n, .string (strL p)] 38)) (.cells (bvA (zerosL 32)) 55)
    rw [size_alloc] at this
    exact this
  have hsz2 : w2.heap.size = w.heap.size + 2 := by rw [← hw2, size_alloc, size_alloc]
  clear hw2
  have c0 : w2.cell? ⟨w.heap.size, 0, none⟩ = some (.int .i64 n) := cell_of_row _ _ 0 _ _ _ HS.out.x
  have c1 : w2.cell? ⟨w.heap.size, 1, none⟩ = some (.string (strL p)) := cell_of_row _ _ 1 _ _ _ HS.out.x
  have z32 := zero32 w2
  have hs0 : (bvA (zerosL 32)).size = 32 := rfl
  have hne : ¬ bvA (zerosL 32) = #[] := fun h => by have := congrArg Array.size h; simp [hs0] at this
  have hsp : (strL p).size = p.length := strL_size p
  have hkb : ((loB n).toNat : Int) = n := by simp [loB]; omega
  have hlb : ((loB p.length).toNat : Int) = p.length := by simp [loB]; omega
  have hset : (bvA (loB n :: loB p.length :: zerosL 30)).toList = ((bvA (zerosL 32)).toList.set 0 (.int .u8 (n : Int))).set 1 (.int .u8 (p.length : Int)) := by rw [bvA_toList, bvA_toList, ← hkb, ← hlb]; rfl
  have hst := run_storeCells_new (P := Tryd.prog) w2 55 (bvA (zerosL 32)) (bvA (loB n :: loB p.length :: zerosL 30)) (by rw [size64]; rfl) rfl (bvA_one _)
  rw [hset, hsz2] at hst
  clear hset hkb hlb
  go_wp2_with fail
  clear hst z32 hne hs0 c0 c1
  generalize hw3 : World.alloc w2 _ = w3
  have HS3 : Hid (ErSt w n p w3 ∧ w3.heap[w.heap.size + 2]? = some (.cells (bvA (loB n :: loB p.length :: zerosL 30)) 55)) := by
    rw [← hw3]
    refine ⟨HS.out.go (Kept.alloc _ _ _), ?_⟩
    rw [← hsz2]
    exact heap_alloc_last _ _
  clear hw3 HS hsz2
  clear w2
  have c1 : w3.cell? ⟨w.heap.size, 1, none⟩ = some (.string (strL p)) := cell_of_row _ _ 1 _ _ _ HS3.out.1.x
  have hrun := Lib.run_copy_row_string (P := Tryd.prog) w3.drew 22 9 3 5 (w.heap.size + 2) 2 30 30 (strL p) (bvA (loB n :: loB p.length :: zerosL 30)) 55 Tryd.underlying22 (by kernel_rfl) ((Kept.drew [] _).heap (by simp) HS3.out.2) (by rw [hsp]; omega) (by rw [hsp, bvA_size]; simp [zerosL]; omega)
  have hrow : ((bvA (loB n :: loB p.length :: zerosL 30)).toList.take 2 ++ Lib.byteCells (strL p).data.toList ++ (bvA (loB n :: loB p.length :: zerosL 30)).toList.drop (2 + (strL p).size)).toArray = bvA (entL n p) := by
    rw [hsp, bvA_toList, show Lib.byteCells (strL p).data.toList = bv p from rfl]
    apply Array.toList_inj.1
    rw [bvA_toList]
    rw [show 2 + p.length = p.length + 2 by omega]
    simp [entL, bv, zerosL]
    show List.drop p.length (List.replicate 30 (Value.int .u8 0)) = _
    rw [List.drop_replicate]
  rw [hrow, hsp] at hrun
  have HR := Lib.hid hrun
  clear hrun hrow
  refine wp_region_still_tail 3 (by kernel_rfl) (by kernel_rfl) ?_
  simp only [List.take_succ_cons, List.take_zero, List.drop_succ_cons, List.drop_zero]
  still_step
  still_step
  still_step
  refine wpStill_nil ?_
  refine wpList_copy_run rfl _ _ _ _ rfl _ _ _ rfl rfl HR.out ?_
  have hg4 := setRow_heap w3.drew (w.heap.size + 2) _ (bvA (entL n p)) 55 _ ((Kept.drew [] _).heap (by simp) HS3.out.2)
  obtain ⟨w4, hw4⟩ : ∃ w4, w3.drew.setRow (w.heap.size + 2) (bvA (entL n p)) = w4 := ⟨_, rfl⟩
  rw [hw4] at hg4 ⊢
  have hk4 : Kept [w.heap.size + 2] w3.drew w4 := by rw [← hw4]; exact setRow_kept _ _ _
  have HS4 : Hid (w4.heap[w.heap.size + 1]? = some (.cells (bvA (zerosL 32)) 55) ∧ Kept [] w w4) := ⟨hk4.heap (by simp) (HS3.out.1.go (Kept.drew _ _)).r, (HS3.out.1.go (Kept.drew _ _)).kept.into hk4 (by simp)⟩
  clear hw4 hk4 HS3 HR c1
  clear w3
  obtain ⟨L, hL⟩ : ∃ L, entL n p = L := ⟨_, rfl⟩
  have hrl : L.length = 32 := by rw [← hL]; exact entL_length hp
  rw [hL] at hg4
  have HLM := Lib.hid hL
  have HRL := Lib.hid hrl
  clear hL hrl
  have hrg := range_row hg4
  have hsz : (Tryd.prog.info? 55).map (·.size) = some (bv L).length := by rw [bv_length, HRL.out]; exact size64
  have hsz2 : (Tryd.prog.info? 55).map (·.size) = some L.length := by rw [HRL.out]; exact size64
  have hl2 : L.length = (zerosL 32).length := by rw [HRL.out]; rfl
  have HR := HS4.out.1
  clear hg4
  go_wp2_with first
    | (refine wpList_load_mid rfl 55 _ rfl _ 0 rfl (bv L) _ hrg Tryd.underlying55 rfl hsz ?_)
    | (refine wpList_store_row rfl 55 _ _ rfl (w.heap.size + 1) 55 (zerosL 32) L rfl rfl HR hl2 hsz2 ?_)
  refine bodyPost_ret_by (results_cell_row rfl _ _ (w.heap.size + 1) 55 (bvA L) (0, 0) _ rfl (setRow_heap _ _ _ _ _ _ HR) Tryd.underlying55 rfl (by rw [bvA_size]; exact hsz2)) rfl ⟨by rw [HLM.out], ?_⟩
  exact HS4.out.2.into (setRow_kept _ _ _) (by simp)
end Go.Proofs.YtbggmeilkfpbgaaDoor
