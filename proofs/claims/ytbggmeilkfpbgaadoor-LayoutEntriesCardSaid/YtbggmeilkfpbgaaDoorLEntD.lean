/-
  Layer 3: what a record tells of an entry (readEntry).
  Conditions: those that each theorem states.
-/
import Derived.Test.YtbggmeilkfpbgaaDoorLEntP
import Derived.Deep.Cut
namespace Go.Proofs.YtbggmeilkfpbgaaDoor
open Go.RowKit Go.Maps

def byteN (R : List UInt8) (i : Nat) : Nat := (R.getD i 0).toNat
def nmL (R : List UInt8) : List UInt8 := (R.drop 2).take (min (2 + byteN R 1) 32 - 2)
theorem byteN_lt (R : List UInt8) (i : Nat) : byteN R i < 256 := UInt8.toNat_lt _
theorem byteN_get {R : List UInt8} {i : Nat} (h : i < R.length) : (bv R)[i]? = some (.int .u8 (byteN R i : Int)) := by
  simp [bv, byteN, List.getD_eq_getElem?_getD, h]

set_option maxRecDepth 100000 in
set_option maxHeartbeats 4000000 in
theorem readEntry_any (R : List UInt8) (w : World) (hR : R.length = 32) :
    Calls Tryd.prog 32 #[.agg (bvA R)] w fun e w' => e = .returned (.agg #[.int .i64 (byteN R 0), .string (strL (nmL R))]) ∧ Kept [] w w' := by
  have hsz : (Tryd.prog.info? 55).map (·.size) = some R.length := by rw [hR]; exact size64
  obtain ⟨n, hn⟩ : ∃ n, byteN R 0 = n := ⟨_, rfl⟩
  obtain ⟨c, hc⟩ : ∃ c, byteN R 1 = c := ⟨_, rfl⟩
  obtain ⟨p, hp⟩ : ∃ p, nmL R = p := ⟨_, rfl⟩
  have g0 := byteN_get (R := R) (i := 0) (by omega)
  have g1 := byteN_get (R := R) (i := 1) (by omega)
  have n1 := byteN_lt R 0
  have n2 := byteN_lt R 1
  rw [hn] at g0 n1
  rw [hc] at g1 n2
  rw [hn, hp]
  obtain ⟨e, he⟩ : ∃ e, min (2 + c) 32 = e := ⟨_, rfl⟩
  have he2 : 2 ≤ e ∧ e ≤ 32 := by omega
  have hpl : p.length = e - 2 := by rw [← hp]; unfold nmL; rw [hc, he, List.length_take, List.length_drop]; omega
  have hpr : ∀ j v, (bv p)[j]? = some v → (bv R)[2 + j]? = some v := fun j v hv => by
    rw [← hp] at hv
    unfold nmL at hv
    have hj : j < p.length := by have := (List.getElem?_eq_some_iff.1 hv).1; rw [← hp]; simpa [bv, nmL] using this
    simp only [bv, List.getElem?_map] at hv ⊢
    rw [List.getElem?_take_of_lt (by rw [hc, he]; omega), List.getElem?_drop] at hv
    exact hv
  have HG0 := Lib.hid g0
  have HG1 := Lib.hid g1
  have HPR := Lib.hid hpr
  have HPL := Lib.hid hpl
  have HE := Lib.hid he
  have HR := Lib.hid hR
  clear g0 g1 hpr hpl hn hc hp hR
  go_enter Tryd.func32, Tryd.ntmps32
  go_upto_region 1 with (fail)
  generalize hw2 : World.alloc (World.alloc w _) _ = w2
  have H2 : Hid (w2.heap[w.heap.size]? = some (.cells (bvA R) 55) ∧ w2.heap[w.heap.size + 1]? = some (.cells #[.int .i64 0, .string (strL [])] 38) ∧ Kept [] w w2) := by
    rw [← hw2]
    refine ⟨(Kept.alloc [] _ _).heap (by simp) (heap_alloc_last w _), ?_, (Kept.alloc _ _ _).trans (Kept.alloc _ _ _)⟩
    have := heap_alloc_last (w.alloc (.cells (bvA R) 55)) (.cells #[.int .i64 0, .string (strL [])] 38)
    rw [size_alloc] at this
    exact this
  clear hw2
  have hrg := range_row H2.out.1
  have c0 : w2.cell? ⟨w.heap.size, 0, none⟩ = some (.int .u8 (n : Int)) := by have := hrg 0 _ HG0.out; simpa using this
  have c1 : w2.cell? ⟨w.heap.size, 1, none⟩ = some (.int .u8 (c : Int)) := by have := hrg 1 _ HG1.out; simpa using this
  have hmn : min (2 + (c : Int)) 32 = e := by have := HE.out; omega
  have cv : (convert 22 9 (.slice (some ⟨w.heap.size, 2, none⟩) (e - 2) 30)).run Tryd.prog w2.drew = .ok (.string (strL p)) w2.drew := by
    refine conv_of_range w2.drew _ _ _ Tryd.underlying22 Tryd.underlying5 Tryd.underlying9 w.heap.size 2 30 p _ HPL.out fun j v hv => ?_
    have := range_row ((Kept.drew [] w2).heap (by simp) H2.out.1) (2 + j) v (HPR.out j v hv)
    rwa [Nat.zero_add] at this
  have d0 : w2.drew.cell? ⟨w.heap.size, 0, none⟩ = some (.int .u8 (n : Int)) := c0
  have hte : ((e : Int)).toNat = e := by omega
  have wn : IntKind.i64.wrap (n : Int) = n := by rw [IntKind.wrap_i64]; omega
  have h2e : (2 : Int) ≤ (e : Int) := by omega
  have he32 : (e : Int) ≤ 32 := by omega
  clear hrg he
  go_wp2_with fail
  refine wp_region_still_tail 7 (by kernel_rfl) (by kernel_rfl) ?_
  simp only [List.take_succ_cons, List.take_zero, List.drop_succ_cons, List.drop_zero]
  still_step
  still_step
  still_step
  still_step
  still_step
  still_step
  still_step
  refine wpStill_nil ?_
  have HR2 := (Kept.drew [] w2).heap (by simp) H2.out.2.1
  have f0 : w2.drew.cell? ⟨w.heap.size + 1, 0, none⟩ = some (.int .i64 0) := cell_of_row _ _ 0 _ _ _ HR2
  have f1 : w2.drew.cell? ⟨w.heap.size + 1, 1, none⟩ = some (.string (strL [])) := cell_of_row _ _ 1 _ _ _ HR2
  have fz : ∀ q, w2.drew.frozen? ⟨w.heap.size + 1, q, none⟩ = false := fun q => frozen_of_row _ _ q _ _ HR2
  have k0 : w2.cell? ⟨w.heap.size + 1, 0, none⟩ = some (.int .i64 0) := f0
  have k1 : w2.cell? ⟨w.heap.size + 1, 1, none⟩ = some (.string (strL [])) := f1
  have kz : ∀ q, w2.frozen? ⟨w.heap.size + 1, q, none⟩ = false := fz
  clear f0 f1 fz
  go_wp2_with fail
  have a1 := heap_setCell_same w2 (w.heap.size + 1) 0 _ _ (.int .i64 (n : Int)) H2.out.2.1
  have a2 := heap_setCell_same _ (w.heap.size + 1) 1 _ _ (.string (strL p)) a1
  have a3 := (Kept.drew [] _).heap (by simp) a2
  have kk : Kept [w.heap.size + 1] w2 (((w2.setCell ⟨w.heap.size + 1, 0, none⟩ (.int .i64 (n : Int))).setCell ⟨w.heap.size + 1, 1, none⟩ (.string (strL p))).drew) := ((Kept.setCell _ _ _ _ (by simp)).trans (Kept.setCell _ _ _ _ (by simp))).trans (Kept.drew _ _)
  have KW := H2.out.2.2.into kk (by simp)
  refine bodyPost_ret_by (results_cell_row rfl _ _ (w.heap.size + 1) 38 #[.int .i64 (n : Int), .string (strL p)] (0, 0) _ rfl a3 Tryd.underlying38 rfl (by kernel_rfl)) rfl ⟨rfl, KW⟩
end Go.Proofs.YtbggmeilkfpbgaaDoor
