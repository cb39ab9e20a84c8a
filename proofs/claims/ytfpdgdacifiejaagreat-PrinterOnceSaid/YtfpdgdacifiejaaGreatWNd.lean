/-
  Layer 13: each kind of node is laid.
  Conditions: those that each theorem states.
-/
import Derived.Test.YtfpdgdacifiejaaGreatWKind
import Derived.Test.YtfpdgdacifiejaaGreatWBlock
namespace Go.Proofs.YtfpdgdacifiejaaGreat
open Go.RowKit Go.Maps

set_option maxRecDepth 100000 in
set_option maxHeartbeats 4000000 in
theorem pnode_leaf12 (W : World) (nv : Value) (ns : List Nod) (hns : NdIs W nv ns) (d i : Nat) (tx : List UInt8) (ks : List Nat) (hnd : ns[i]? = some ⟨12, tx, ks⟩) (htx : tx.length ≤ 1000000) : PCt W nv (d) i (fun _ => leafX 12 tx ++ []) := by
  intro p bl acc w hp hw hs hd hl
  obtain ⟨hi, hnd⟩ := List.getElem?_eq_some_iff.1 hnd
  obtain ⟨na, nc, rfl, hnc, hn63, hncell⟩ := hns
  obtain ⟨nb, no, rfl, hnb, hnat⟩ := hncell (by omega)
  obtain ⟨e0, e1, lv, e2, hks⟩ := hnat i hi
  rw [hnd] at e0 e1 hks
  have n0 : w.cell? ⟨p, 0, none⟩ = some (.slice (some ⟨nb, no, none⟩) ns.length nc) := by
    obtain ⟨ad, bf, h1, _⟩ := hs.out
    exact cell_of_row _ _ 0 _ _ _ h1
  have f0 : w.cell? ⟨nb, no + i * 3, none⟩ = some (.int .i64 12) := (hw.cell (p := ⟨nb, no + i * 3, none⟩) hnb (by simp)).trans e0
  have f1 : w.cell? ⟨nb, no + i * 3 + 1, none⟩ = some (.string (strL tx)) := (hw.cell (p := ⟨nb, no + i * 3 + 1, none⟩) hnb (by simp)).trans e1
  have f2 := (hw.cell (p := ⟨nb, no + i * 3 + 2, none⟩) hnb (by simp)).trans e2
  obtain ⟨N, hN⟩ : ∃ N, ns.length = N := ⟨_, rfl⟩
  obtain ⟨nv, hnv⟩ : ∃ nv, Value.slice (some ⟨nb, no, none⟩) ns.length nc = nv := ⟨_, rfl⟩
  rw [hN] at hi n0 hnc
  have HNV := Lib.hid hnv
  rw [hnv] at hs
  clear e0 e1 e2 hnat hncell hnb hnv hnd hN
  simp only at hl ⊢
  obtain ⟨ao, m, cap, rfl⟩ : ∃ ao n cap, lv = .slice ao n cap := by obtain ⟨a, c, h, _⟩ := hks; exact ⟨_, _, _, h⟩
  have HKS := Lib.hid hks
  clear hks
  have HTX := Lib.hid htx
  clear htx
  have HL := Lib.hid hl
  have HD := Lib.hid hd
  have HWP := Lib.hid hp
  have HW := Lib.hid hw
  have H0 : Hid (PgSt p nv bl acc w ∧ Kept [] W w) := ⟨hs, hw⟩
  clear hl hs hw hd hp
  rw [HNV.out]
  clear HNV
  go_enter Tryz.func23, Tryz.ntmps23
  obtain ⟨w1, hw1⟩ : ∃ w1, w.alloc (.cells #[.int .i64 12, .string (strL tx), .slice ao m cap] 41) = w1 := ⟨_, rfl⟩
  have H1 : Hid (PgSt p nv bl (acc) w1 ∧ Kept [] W w1 ∧ PF p w w1 ∧ w1.heap[w.heap.size]? = some (.cells #[.int .i64 12, .string (strL tx), .slice ao m cap] 41)) := by
    rw [← hw1]
    exact ⟨H0.out.1.go (Kept.alloc _ _ _), H0.out.2.trans (Kept.alloc _ _ _), PF.of (Kept.alloc _ _ _), heap_alloc_last _ _⟩
  have hqp : Hid (w.heap.size ≠ p ∧ p < w.heap.size) := ⟨by have := H0.out.1.lt; omega, H0.out.1.lt⟩
  have q0_1 : w1.cell? ⟨w.heap.size, 0, none⟩ = some (.int .i64 12) := cell_of_row _ _ 0 _ _ _ H1.out.2.2.2
  have q1_1 : w1.cell? ⟨w.heap.size, 1, none⟩ = some (.string (strL tx)) := cell_of_row _ _ 1 _ _ _ H1.out.2.2.2
  have q2_1 : w1.cell? ⟨w.heap.size, 2, none⟩ = some (.slice ao m cap) := cell_of_row _ _ 2 _ _ _ H1.out.2.2.2
  go_wp2_with fail
  refine (show Calls Tryz.prog 49 #[.agg #[.int .i64 12, .string (strL tx), .slice ao m cap]] w1 _ from pleaf_any 12 tx (.slice ao m cap) w1 (by omega) ⟨_, _, _, rfl⟩ (by have := HTX.out; omega)).mono ?_
  rintro e y1 ⟨rfl, hky⟩
  have G1 : Hid (PgSt p nv bl acc y1 ∧ PF p w y1) := ⟨H1.out.1.go hky, H1.out.2.2.1.trans (PF.of hky)⟩
  obtain ⟨v1, hv1⟩ : ∃ v, y1.alloc (.cells #[.string (strL (leafX 12 tx))] 9) = v := ⟨_, rfl⟩
  have K1 : Hid (Kept [] y1 v1 ∧ v1.heap[y1.heap.size]? = some (.cells #[.string (strL (leafX 12 tx))] 9)) := by
    rw [← hv1]
    exact ⟨Kept.alloc _ _ _, heap_alloc_last _ _⟩
  have HP := Lib.hid (pput_one p nv bl acc (leafX 12 tx) y1.heap.size v1 (G1.out.1.go K1.out.1) K1.out.2 (by have := HL.out; simp only [List.length_append, List.length_nil] at this; omega))
  clear hky q0_1 q1_1 q2_1 H1
  go_wp2_with fail
  refine HP.out.mono ?_
  rintro e y2 ⟨rfl, h, hk⟩
  have HF := Lib.hid (show PgSt p nv bl (acc ++ leafX 12 tx) y2 ∧ PF p w y2 from ⟨h, (G1.out.2.trans (PF.of K1.out.1)).trans hk⟩)
  clear h hk
  go_wp2_with fail
  go_end0
  exact ⟨rfl, by simpa only [List.append_nil] using HF.out.1, HF.out.2⟩
set_option maxRecDepth 100000 in
set_option maxHeartbeats 4000000 in
theorem pnode_leaf13 (W : World) (nv : Value) (ns : List Nod) (hns : NdIs W nv ns) (d i : Nat) (tx : List UInt8) (ks : List Nat) (hnd : ns[i]? = some ⟨13, tx, ks⟩) (htx : tx.length ≤ 1000000) : PCt W nv (d) i (fun _ => leafX 13 tx ++ []) := by
  intro p bl acc w hp hw hs hd hl
  obtain ⟨hi, hnd⟩ := List.getElem?_eq_some_iff.1 hnd
  obtain ⟨na, nc, rfl, hnc, hn63, hncell⟩ := hns
  obtain ⟨nb, no, rfl, hnb, hnat⟩ := hncell (by omega)
  obtain ⟨e0, e1, lv, e2, hks⟩ := hnat i hi
  rw [hnd] at e0 e1 hks
  have n0 : w.cell? ⟨p, 0, none⟩ = some (.slice (some ⟨nb, no, none⟩) ns.length nc) := by
    obtain ⟨ad, bf, h1, _⟩ := hs.out
    exact cell_of_row _ _ 0 _ _ _ h1
  have f0 : w.cell? ⟨nb, no + i * 3, none⟩ = some (.int .i64 13) := (hw.cell (p := ⟨nb, no + i * 3, none⟩) hnb (by simp)).trans e0
  have f1 : w.cell? ⟨nb, no + i * 3 + 1, none⟩ = some (.string (strL tx)) := (hw.cell (p := ⟨nb, no + i * 3 + 1, none⟩) hnb (by simp)).trans e1
  have f2 := (hw.cell (p := ⟨nb, no + i * 3 + 2, none⟩) hnb (by simp)).trans e2
  obtain ⟨N, hN⟩ : ∃ N, ns.length = N := ⟨_, rfl⟩
  obtain ⟨nv, hnv⟩ : ∃ nv, Value.slice (some ⟨nb, no, none⟩) ns.length nc = nv := ⟨_, rfl⟩
  rw [hN] at hi n0 hnc
  have HNV := Lib.hid hnv
  rw [hnv] at hs
  clear e0 e1 e2 hnat hncell hnb hnv hnd hN
  simp only at hl ⊢
  obtain ⟨ao, m, cap, rfl⟩ : ∃ ao n cap, lv = .slice ao n cap := by obtain ⟨a, c, h, _⟩ := hks; exact ⟨_, _, _, h⟩
  have HKS := Lib.hid hks
  clear hks
  have HTX := Lib.hid htx
  clear htx
  have HL := Lib.hid hl
  have HD := Lib.hid hd
  have HWP := Lib.hid hp
  have HW := Lib.hid hw
  have H0 : Hid (PgSt p nv bl acc w ∧ Kept [] W w) := ⟨hs, hw⟩
  clear hl hs hw hd hp
  rw [HNV.out]
  clear HNV
  go_enter Tryz.func23, Tryz.ntmps23
  obtain ⟨w1, hw1⟩ : ∃ w1, w.alloc (.cells #[.int .i64 13, .string (strL tx), .slice ao m cap] 41) = w1 := ⟨_, rfl⟩
  have H1 : Hid (PgSt p nv bl (acc) w1 ∧ Kept [] W w1 ∧ PF p w w1 ∧ w1.heap[w.heap.size]? = some (.cells #[.int .i64 13, .string (strL tx), .slice ao m cap] 41)) := by
    rw [← hw1]
    exact ⟨H0.out.1.go (Kept.alloc _ _ _), H0.out.2.trans (Kept.alloc _ _ _), PF.of (Kept.alloc _ _ _), heap_alloc_last _ _⟩
  have hqp : Hid (w.heap.size ≠ p ∧ p < w.heap.size) := ⟨by have := H0.out.1.lt; omega, H0.out.1.lt⟩
  have q0_1 : w1.cell? ⟨w.heap.size, 0, none⟩ = some (.int .i64 13) := cell_of_row _ _ 0 _ _ _ H1.out.2.2.2
  have q1_1 : w1.cell? ⟨w.heap.size, 1, none⟩ = some (.string (strL tx)) := cell_of_row _ _ 1 _ _ _ H1.out.2.2.2
  have q2_1 : w1.cell? ⟨w.heap.size, 2, none⟩ = some (.slice ao m cap) := cell_of_row _ _ 2 _ _ _ H1.out.2.2.2
  go_wp2_with fail
  refine (show Calls Tryz.prog 49 #[.agg #[.int .i64 13, .string (strL tx), .slice ao m cap]] w1 _ from pleaf_any 13 tx (.slice ao m cap) w1 (by omega) ⟨_, _, _, rfl⟩ (by have := HTX.out; omega)).mono ?_
  rintro e y1 ⟨rfl, hky⟩
  have G1 : Hid (PgSt p nv bl acc y1 ∧ PF p w y1) := ⟨H1.out.1.go hky, H1.out.2.2.1.trans (PF.of hky)⟩
  obtain ⟨v1, hv1⟩ : ∃ v, y1.alloc (.cells #[.string (strL (leafX 13 tx))] 9) = v := ⟨_, rfl⟩
  have K1 : Hid (Kept [] y1 v1 ∧ v1.heap[y1.heap.size]? = some (.cells #[.string (strL (leafX 13 tx))] 9)) := by
    rw [← hv1]
    exact ⟨Kept.alloc _ _ _, heap_alloc_last _ _⟩
  have HP := Lib.hid (pput_one p nv bl acc (leafX 13 tx) y1.heap.size v1 (G1.out.1.go K1.out.1) K1.out.2 (by have := HL.out; simp only [List.length_append, List.length_nil] at this; omega))
  clear hky q0_1 q1_1 q2_1 H1
  go_wp2_with fail
  refine HP.out.mono ?_
  rintro e y2 ⟨rfl, h, hk⟩
  have HF := Lib.hid (show PgSt p nv bl (acc ++ leafX 13 tx) y2 ∧ PF p w y2 from ⟨h, (G1.out.2.trans (PF.of K1.out.1)).trans hk⟩)
  clear h hk
  go_wp2_with fail
  go_end0
  exact ⟨rfl, by simpa only [List.append_nil] using HF.out.1, HF.out.2⟩
set_option maxRecDepth 100000 in
set_option maxHeartbeats 4000000 in
theorem pnode_leaf14 (W : World) (nv : Value) (ns : List Nod) (hns : NdIs W nv ns) (d i : Nat) (tx : List UInt8) (ks : List Nat) (hnd : ns[i]? = some ⟨14, tx, ks⟩) (htx : tx.length ≤ 1000000) : PCt W nv (d) i (fun _ => leafX 14 tx ++ []) := by
  intro p bl acc w hp hw hs hd hl
  obtain ⟨hi, hnd⟩ := List.getElem?_eq_some_iff.1 hnd
  obtain ⟨na, nc, rfl, hnc, hn63, hncell⟩ := hns
  obtain ⟨nb, no, rfl, hnb, hnat⟩ := hncell (by omega)
  obtain ⟨e0, e1, lv, e2, hks⟩ := hnat i hi
  rw [hnd] at e0 e1 hks
  have n0 : w.cell? ⟨p, 0, none⟩ = some (.slice (some ⟨nb, no, none⟩) ns.length nc) := by
    obtain ⟨ad, bf, h1, _⟩ := hs.out
    exact cell_of_row _ _ 0 _ _ _ h1
  have f0 : w.cell? ⟨nb, no + i * 3, none⟩ = some (.int .i64 14) := (hw.cell (p := ⟨nb, no + i * 3, none⟩) hnb (by simp)).trans e0
  have f1 : w.cell? ⟨nb, no + i * 3 + 1, none⟩ = some (.string (strL tx)) := (hw.cell (p := ⟨nb, no + i * 3 + 1, none⟩) hnb (by simp)).trans e1
  have f2 := (hw.cell (p := ⟨nb, no + i * 3 + 2, none⟩) hnb (by simp)).trans e2
  obtain ⟨N, hN⟩ : ∃ N, ns.length = N := ⟨_, rfl⟩
  obtain ⟨nv, hnv⟩ : ∃ nv, Value.slice (some ⟨nb, no, none⟩) ns.length nc = nv := ⟨_, rfl⟩
  rw [hN] at hi n0 hnc
  have HNV := Lib.hid hnv
  rw [hnv] at hs
  clear e0 e1 e2 hnat hncell hnb hnv hnd hN
  simp only at hl ⊢
  obtain ⟨ao, m, cap, rfl⟩ : ∃ ao n cap, lv = .slice ao n cap := by obtain ⟨a, c, h, _⟩ := hks; exact ⟨_, _, _, h⟩
  have HKS := Lib.hid hks
  clear hks
  have HTX := Lib.hid htx
  clear htx
  have HL := Lib.hid hl
  have HD := Lib.hid hd
  have HWP := Lib.hid hp
  have HW := Lib.hid hw
  have H0 : Hid (PgSt p nv bl acc w ∧ Kept [] W w) := ⟨hs, hw⟩
  clear hl hs hw hd hp
  rw [HNV.out]
  clear HNV
  go_enter Tryz.func23, Tryz.ntmps23
  obtain ⟨w1, hw1⟩ : ∃ w1, w.alloc (.cells #[.int .i64 14, .string (strL tx), .slice ao m cap] 41) = w1 := ⟨_, rfl⟩
  have H1 : Hid (PgSt p nv bl (acc) w1 ∧ Kept [] W w1 ∧ PF p w w1 ∧ w1.heap[w.heap.size]? = some (.cells #[.int .i64 14, .string (strL tx), .slice ao m cap] 41)) := by
    rw [← hw1]
    exact ⟨H0.out.1.go (Kept.alloc _ _ _), H0.out.2.trans (Kept.alloc _ _ _), PF.of (Kept.alloc _ _ _), heap_alloc_last _ _⟩
  have hqp : Hid (w.heap.size ≠ p ∧ p < w.heap.size) := ⟨by have := H0.out.1.lt; omega, H0.out.1.lt⟩
  have q0_1 : w1.cell? ⟨w.heap.size, 0, none⟩ = some (.int .i64 14) := cell_of_row _ _ 0 _ _ _ H1.out.2.2.2
  have q1_1 : w1.cell? ⟨w.heap.size, 1, none⟩ = some (.string (strL tx)) := cell_of_row _ _ 1 _ _ _ H1.out.2.2.2
  have q2_1 : w1.cell? ⟨w.heap.size, 2, none⟩ = some (.slice ao m cap) := cell_of_row _ _ 2 _ _ _ H1.out.2.2.2
  go_wp2_with fail
  refine (show Calls Tryz.prog 49 #[.agg #[.int .i64 14, .string (strL tx), .slice ao m cap]] w1 _ from pleaf_any 14 tx (.slice ao m cap) w1 (by omega) ⟨_, _, _, rfl⟩ (by have := HTX.out; omega)).mono ?_
  rintro e y1 ⟨rfl, hky⟩
  have G1 : Hid (PgSt p nv bl acc y1 ∧ PF p w y1) := ⟨H1.out.1.go hky, H1.out.2.2.1.trans (PF.of hky)⟩
  obtain ⟨v1, hv1⟩ : ∃ v, y1.alloc (.cells #[.string (strL (leafX 14 tx))] 9) = v := ⟨_, rfl⟩
  have K1 : Hid (Kept [] y1 v1 ∧ v1.heap[y1.heap.size]? = some (.cells #[.string (strL (leafX 14 tx))] 9)) := by
    rw [← hv1]
    exact ⟨Kept.alloc _ _ _, heap_alloc_last _ _⟩
  have HP := Lib.hid (pput_one p nv bl acc (leafX 14 tx) y1.heap.size v1 (G1.out.1.go K1.out.1) K1.out.2 (by have := HL.out; simp only [List.length_append, List.length_nil] at this; omega))
  clear hky q0_1 q1_1 q2_1 H1
  go_wp2_with fail
  refine HP.out.mono ?_
  rintro e y2 ⟨rfl, h, hk⟩
  have HF := Lib.hid (show PgSt p nv bl (acc ++ leafX 14 tx) y2 ∧ PF p w y2 from ⟨h, (G1.out.2.trans (PF.of K1.out.1)).trans hk⟩)
  clear h hk
  go_wp2_with fail
  go_end0
  exact ⟨rfl, by simpa only [List.append_nil] using HF.out.1, HF.out.2⟩
set_option maxRecDepth 100000 in
set_option maxHeartbeats 4000000 in
theorem pnode_leaf15 (W : World) (nv : Value) (ns : List Nod) (hns : NdIs W nv ns) (d i : Nat) (tx : List UInt8) (ks : List Nat) (hnd : ns[i]? = some ⟨15, tx, ks⟩) (htx : tx.length ≤ 1000000) : PCt W nv (d) i (fun _ => leafX 15 tx ++ []) := by
  intro p bl acc w hp hw hs hd hl
  obtain ⟨hi, hnd⟩ := List.getElem?_eq_some_iff.1 hnd
  obtain ⟨na, nc, rfl, hnc, hn63, hncell⟩ := hns
  obtain ⟨nb, no, rfl, hnb, hnat⟩ := hncell (by omega)
  obtain ⟨e0, e1, lv, e2, hks⟩ := hnat i hi
  rw [hnd] at e0 e1 hks
  have n0 : w.cell? ⟨p, 0, none⟩ = some (.slice (some ⟨nb, no, none⟩) ns.length nc) := by
    obtain ⟨ad, bf, h1, _⟩ := hs.out
    exact cell_of_row _ _ 0 _ _ _ h1
  have f0 : w.cell? ⟨nb, no + i * 3, none⟩ = some (.int .i64 15) := (hw.cell (p := ⟨nb, no + i * 3, none⟩) hnb (by simp)).trans e0
  have f1 : w.cell? ⟨nb, no + i * 3 + 1, none⟩ = some (.string (strL tx)) := (hw.cell (p := ⟨nb, no + i * 3 + 1, none⟩) hnb (by simp)).trans e1
  have f2 := (hw.cell (p := ⟨nb, no + i * 3 + 2, none⟩) hnb (by simp)).trans e2
  obtain ⟨N, hN⟩ : ∃ N, ns.length = N := ⟨_, rfl⟩
  obtain ⟨nv, hnv⟩ : ∃ nv, Value.slice (some ⟨nb, no, none⟩) ns.length nc = nv := ⟨_, rfl⟩
  rw [hN] at hi n0 hnc
  have HNV := Lib.hid hnv
  rw [hnv] at hs
  clear e0 e1 e2 hnat hncell hnb hnv hnd hN
  simp only at hl ⊢
  obtain ⟨ao, m, cap, rfl⟩ : ∃ ao n cap, lv = .slice ao n cap := by obtain ⟨a, c, h, _⟩ := hks; exact ⟨_, _, _, h⟩
  have HKS := Lib.hid hks
  clear hks
  have HTX := Lib.hid htx
  clear htx
  have HL := Lib.hid hl
  have HD := Lib.hid hd
  have HWP := Lib.hid hp
  have HW := Lib.hid hw
  have H0 : Hid (PgSt p nv bl acc w ∧ Kept [] W w) := ⟨hs, hw⟩
  clear hl hs hw hd hp
  rw [HNV.out]
  clear HNV
  go_enter Tryz.func23, Tryz.ntmps23
  obtain ⟨w1, hw1⟩ : ∃ w1, w.alloc (.cells #[.int .i64 15, .string (strL tx), .slice ao m cap] 41) = w1 := ⟨_, rfl⟩
  have H1 : Hid (PgSt p nv bl (acc) w1 ∧ Kept [] W w1 ∧ PF p w w1 ∧ w1.heap[w.heap.size]? = some (.cells #[.int .i64 15, .string (strL tx), .slice ao m cap] 41)) := by
    rw [← hw1]
    exact ⟨H0.out.1.go (Kept.alloc _ _ _), H0.out.2.trans (Kept.alloc _ _ _), PF.of (Kept.alloc _ _ _), heap_alloc_last _ _⟩
  have hqp : Hid (w.heap.size ≠ p ∧ p < w.heap.size) := ⟨by have := H0.out.1.lt; omega, H0.out.1.lt⟩
  have q0_1 : w1.cell? ⟨w.heap.size, 0, none⟩ = some (.int .i64 15) := cell_of_row _ _ 0 _ _ _ H1.out.2.2.2
  have q1_1 : w1.cell? ⟨w.heap.size, 1, none⟩ = some (.string (strL tx)) := cell_of_row _ _ 1 _ _ _ H1.out.2.2.2
  have q2_1 : w1.cell? ⟨w.heap.size, 2, none⟩ = some (.slice ao m cap) := cell_of_row _ _ 2 _ _ _ H1.out.2.2.2
  go_wp2_with fail
  refine (show Calls Tryz.prog 49 #[.agg #[.int .i64 15, .string (strL tx), .slice ao m cap]] w1 _ from pleaf_any 15 tx (.slice ao m cap) w1 (by omega) ⟨_, _, _, rfl⟩ (by have := HTX.out; omega)).mono ?_
  rintro e y1 ⟨rfl, hky⟩
  have G1 : Hid (PgSt p nv bl acc y1 ∧ PF p w y1) := ⟨H1.out.1.go hky, H1.out.2.2.1.trans (PF.of hky)⟩
  obtain ⟨v1, hv1⟩ : ∃ v, y1.alloc (.cells #[.string (strL (leafX 15 tx))] 9) = v := ⟨_, rfl⟩
  have K1 : Hid (Kept [] y1 v1 ∧ v1.heap[y1.heap.size]? = some (.cells #[.string (strL (leafX 15 tx))] 9)) := by
    rw [← hv1]
    exact ⟨Kept.alloc _ _ _, heap_alloc_last _ _⟩
  have HP := Lib.hid (pput_one p nv bl acc (leafX 15 tx) y1.heap.size v1 (G1.out.1.go K1.out.1) K1.out.2 (by have := HL.out; simp only [List.length_append, List.length_nil] at this; omega))
  clear hky q0_1 q1_1 q2_1 H1
  go_wp2_with fail
  refine HP.out.mono ?_
  rintro e y2 ⟨rfl, h, hk⟩
  have HF := Lib.hid (show PgSt p nv bl (acc ++ leafX 15 tx) y2 ∧ PF p w y2 from ⟨h, (G1.out.2.trans (PF.of K1.out.1)).trans hk⟩)
  clear h hk
  go_wp2_with fail
  go_end0
  exact ⟨rfl, by simpa only [List.append_nil] using HF.out.1, HF.out.2⟩
set_option maxRecDepth 100000 in
set_option maxHeartbeats 4000000 in
theorem pnode_leaf16 (W : World) (nv : Value) (ns : List Nod) (hns : NdIs W nv ns) (d i : Nat) (tx : List UInt8) (ks : List Nat) (hnd : ns[i]? = some ⟨16, tx, ks⟩) (htx : tx.length ≤ 1000000) : PCt W nv (d) i (fun _ => leafX 16 tx ++ []) := by
  intro p bl acc w hp hw hs hd hl
  obtain ⟨hi, hnd⟩ := List.getElem?_eq_some_iff.1 hnd
  obtain ⟨na, nc, rfl, hnc, hn63, hncell⟩ := hns
  obtain ⟨nb, no, rfl, hnb, hnat⟩ := hncell (by omega)
  obtain ⟨e0, e1, lv, e2, hks⟩ := hnat i hi
  rw [hnd] at e0 e1 hks
  have n0 : w.cell? ⟨p, 0, none⟩ = some (.slice (some ⟨nb, no, none⟩) ns.length nc) := by
    obtain ⟨ad, bf, h1, _⟩ := hs.out
    exact cell_of_row _ _ 0 _ _ _ h1
  have f0 : w.cell? ⟨nb, no + i * 3, none⟩ = some (.int .i64 16) := (hw.cell (p := ⟨nb, no + i * 3, none⟩) hnb (by simp)).trans e0
  have f1 : w.cell? ⟨nb, no + i * 3 + 1, none⟩ = some (.string (strL tx)) := (hw.cell (p := ⟨nb, no + i * 3 + 1, none⟩) hnb (by simp)).trans e1
  have f2 := (hw.cell (p := ⟨nb, no + i * 3 + 2, none⟩) hnb (by simp)).trans e2
  obtain ⟨N, hN⟩ : ∃ N, ns.length = N := ⟨_, rfl⟩
  obtain ⟨nv, hnv⟩ : ∃ nv, Value.slice (some ⟨nb, no, none⟩) ns.length nc = nv := ⟨_, rfl⟩
  rw [hN] at hi n0 hnc
  have HNV := Lib.hid hnv
  rw [hnv] at hs
  clear e0 e1 e2 hnat hncell hnb hnv hnd hN
  simp only at hl ⊢
  obtain ⟨ao, m, cap, rfl⟩ : ∃ ao n cap, lv = .slice ao n cap := by obtain ⟨a, c, h, _⟩ := hks; exact ⟨_, _, _, h⟩
  have HKS := Lib.hid hks
  clear hks
  have HTX := Lib.hid htx
  clear htx
  have HL := Lib.hid hl
  have HD := Lib.hid hd
  have HWP := Lib.hid hp
  have HW := Lib.hid hw
  have H0 : Hid (PgSt p nv bl acc w ∧ Kept [] W w) := ⟨hs, hw⟩
  clear hl hs hw hd hp
  rw [HNV.out]
  clear HNV
  go_enter Tryz.func23, Tryz.ntmps23
  obtain ⟨w1, hw1⟩ : ∃ w1, w.alloc (.cells #[.int .i64 16, .string (strL tx), .slice ao m cap] 41) = w1 := ⟨_, rfl⟩
  have H1 : Hid (PgSt p nv bl (acc) w1 ∧ Kept [] W w1 ∧ PF p w w1 ∧ w1.heap[w.heap.size]? = some (.cells #[.int .i64 16, .string (strL tx), .slice ao m cap] 41)) := by
    rw [← hw1]
    exact ⟨H0.out.1.go (Kept.alloc _ _ _), H0.out.2.trans (Kept.alloc _ _ _), PF.of (Kept.alloc _ _ _), heap_alloc_last _ _⟩
  have hqp : Hid (w.heap.size ≠ p ∧ p < w.heap.size) := ⟨by have := H0.out.1.lt; omega, H0.out.1.lt⟩
  have q0_1 : w1.cell? ⟨w.heap.size, 0, none⟩ = some (.int .i64 16) := cell_of_row _ _ 0 _ _ _ H1.out.2.2.2
  have q1_1 : w1.cell? ⟨w.heap.size, 1, none⟩ = some (.string (strL tx)) := cell_of_row _ _ 1 _ _ _ H1.out.2.2.2
  have q2_1 : w1.cell? ⟨w.heap.size, 2, none⟩ = some (.slice ao m cap) := cell_of_row _ _ 2 _ _ _ H1.out.2.2.2
  go_wp2_with fail
  refine (show Calls Tryz.prog 49 #[.agg #[.int .i64 16, .string (strL tx), .slice ao m cap]] w1 _ from pleaf_any 16 tx (.slice ao m cap) w1 (by omega) ⟨_, _, _, rfl⟩ (by have := HTX.out; omega)).mono ?_
  rintro e y1 ⟨rfl, hky⟩
  have G1 : Hid (PgSt p nv bl acc y1 ∧ PF p w y1) := ⟨H1.out.1.go hky, H1.out.2.2.1.trans (PF.of hky)⟩
  obtain ⟨v1, hv1⟩ : ∃ v, y1.alloc (.cells #[.string (strL (leafX 16 tx))] 9) = v := ⟨_, rfl⟩
  have K1 : Hid (Kept [] y1 v1 ∧ v1.heap[y1.heap.size]? = some (.cells #[.string (strL (leafX 16 tx))] 9)) := by
    rw [← hv1]
    exact ⟨Kept.alloc _ _ _, heap_alloc_last _ _⟩
  have HP := Lib.hid (pput_one p nv bl acc (leafX 16 tx) y1.heap.size v1 (G1.out.1.go K1.out.1) K1.out.2 (by have := HL.out; simp only [List.length_append, List.length_nil] at this; omega))
  clear hky q0_1 q1_1 q2_1 H1
  go_wp2_with fail
  refine HP.out.mono ?_
  rintro e y2 ⟨rfl, h, hk⟩
  have HF := Lib.hid (show PgSt p nv bl (acc ++ leafX 16 tx) y2 ∧ PF p w y2 from ⟨h, (G1.out.2.trans (PF.of K1.out.1)).trans hk⟩)
  clear h hk
  go_wp2_with fail
  go_end0
  exact ⟨rfl, by simpa only [List.append_nil] using HF.out.1, HF.out.2⟩
set_option maxRecDepth 100000 in
set_option maxHeartbeats 4000000 in
theorem pnode_leaf17 (W : World) (nv : Value) (ns : List Nod) (hns : NdIs W nv ns) (d i : Nat) (tx : List UInt8) (ks : List Nat) (hnd : ns[i]? = some ⟨17, tx, ks⟩) (htx : tx.length ≤ 1000000) : PCt W nv (d) i (fun _ => leafX 17 tx ++ []) := by
  intro p bl acc w hp hw hs hd hl
  obtain ⟨hi, hnd⟩ := List.getElem?_eq_some_iff.1 hnd
  obtain ⟨na, nc, rfl, hnc, hn63, hncell⟩ := hns
  obtain ⟨nb, no, rfl, hnb, hnat⟩ := hncell (by omega)
  obtain ⟨e0, e1, lv, e2, hks⟩ := hnat i hi
  rw [hnd] at e0 e1 hks
  have n0 : w.cell? ⟨p, 0, none⟩ = some (.slice (some ⟨nb, no, none⟩) ns.length nc) := by
    obtain ⟨ad, bf, h1, _⟩ := hs.out
    exact cell_of_row _ _ 0 _ _ _ h1
  have f0 : w.cell? ⟨nb, no + i * 3, none⟩ = some (.int .i64 17) := (hw.cell (p := ⟨nb, no + i * 3, none⟩) hnb (by simp)).trans e0
  have f1 : w.cell? ⟨nb, no + i * 3 + 1, none⟩ = some (.string (strL tx)) := (hw.cell (p := ⟨nb, no + i * 3 + 1, none⟩) hnb (by simp)).trans e1
  have f2 := (hw.cell (p := ⟨nb, no + i * 3 + 2, none⟩) hnb (by simp)).trans e2
  obtain ⟨N, hN⟩ : ∃ N, ns.length = N := ⟨_, rfl⟩
  obtain ⟨nv, hnv⟩ : ∃ nv, Value.slice (some ⟨nb, no, none⟩) ns.length nc = nv := ⟨_, rfl⟩
  rw [hN] at hi n0 hnc
  have HNV := Lib.hid hnv
  rw [hnv] at hs
  clear e0 e1 e2 hnat hncell hnb hnv hnd hN
  simp only at hl ⊢
  obtain ⟨ao, m, cap, rfl⟩ : ∃ ao n cap, lv = .slice ao n cap := by obtain ⟨a, c, h, _⟩ := hks; exact ⟨_, _, _, h⟩
  have HKS := Lib.hid hks
  clear hks
  have HTX := Lib.hid htx
  clear htx
  have HL := Lib.hid hl
  have HD := Lib.hid hd
  have HWP := Lib.hid hp
  have HW := Lib.hid hw
  have H0 : Hid (PgSt p nv bl acc w ∧ Kept [] W w) := ⟨hs, hw⟩
  clear hl hs hw hd hp
  rw [HNV.out]
  clear HNV
  go_enter Tryz.func23, Tryz.ntmps23
  obtain ⟨w1, hw1⟩ : ∃ w1, w.alloc (.cells #[.int .i64 17, .string (strL tx), .slice ao m cap] 41) = w1 := ⟨_, rfl⟩
  have H1 : Hid (PgSt p nv bl (acc) w1 ∧ Kept [] W w1 ∧ PF p w w1 ∧ w1.heap[w.heap.size]? = some (.cells #[.int .i64 17, .string (strL tx), .slice ao m cap] 41)) := by
    rw [← hw1]
    exact ⟨H0.out.1.go (Kept.alloc _ _ _), H0.out.2.trans (Kept.alloc _ _ _), PF.of (Kept.alloc _ _ _), heap_alloc_last _ _⟩
  have hqp : Hid (w.heap.size ≠ p ∧ p < w.heap.size) := ⟨by have := H0.out.1.lt; omega, H0.out.1.lt⟩
  have q0_1 : w1.cell? ⟨w.heap.size, 0, none⟩ = some (.int .i64 17) := cell_of_row _ _ 0 _ _ _ H1.out.2.2.2
  have q1_1 : w1.cell? ⟨w.heap.size, 1, none⟩ = some (.string (strL tx)) := cell_of_row _ _ 1 _ _ _ H1.out.2.2.2
  have q2_1 : w1.cell? ⟨w.heap.size, 2, none⟩ = some (.slice ao m cap) := cell_of_row _ _ 2 _ _ _ H1.out.2.2.2
  go_wp2_with fail
  refine (show Calls Tryz.prog 49 #[.agg #[.int .i64 17, .string (strL tx), .slice ao m cap]] w1 _ from pleaf_any 17 tx (.slice ao m cap) w1 (by omega) ⟨_, _, _, rfl⟩ (by have := HTX.out; omega)).mono ?_
  rintro e y1 ⟨rfl, hky⟩
  have G1 : Hid (PgSt p nv bl acc y1 ∧ PF p w y1) := ⟨H1.out.1.go hky, H1.out.2.2.1.trans (PF.of hky)⟩
  obtain ⟨v1, hv1⟩ : ∃ v, y1.alloc (.cells #[.string (strL (leafX 17 tx))] 9) = v := ⟨_, rfl⟩
  have K1 : Hid (Kept [] y1 v1 ∧ v1.heap[y1.heap.size]? = some (.cells #[.string (strL (leafX 17 tx))] 9)) := by
    rw [← hv1]
    exact ⟨Kept.alloc _ _ _, heap_alloc_last _ _⟩
  have HP := Lib.hid (pput_one p nv bl acc (leafX 17 tx) y1.heap.size v1 (G1.out.1.go K1.out.1) K1.out.2 (by have := HL.out; simp only [List.length_append, List.length_nil] at this; omega))
  clear hky q0_1 q1_1 q2_1 H1
  go_wp2_with fail
  refine HP.out.mono ?_
  rintro e y2 ⟨rfl, h, hk⟩
  have HF := Lib.hid (show PgSt p nv bl (acc ++ leafX 17 tx) y2 ∧ PF p w y2 from ⟨h, (G1.out.2.trans (PF.of K1.out.1)).trans hk⟩)
  clear h hk
  go_wp2_with fail
  go_end0
  exact ⟨rfl, by simpa only [List.append_nil] using HF.out.1, HF.out.2⟩
set_option maxRecDepth 100000 in
set_option maxHeartbeats 4000000 in
theorem pnode_leaf18 (W : World) (nv : Value) (ns : List Nod) (hns : NdIs W nv ns) (d i : Nat) (tx : List UInt8) (ks : List Nat) (hnd : ns[i]? = some ⟨18, tx, ks⟩) (htx : tx.length ≤ 1000000) : PCt W nv (d) i (fun _ => leafX 18 tx ++ []) := by
  intro p bl acc w hp hw hs hd hl
  obtain ⟨hi, hnd⟩ := List.getElem?_eq_some_iff.1 hnd
  obtain ⟨na, nc, rfl, hnc, hn63, hncell⟩ := hns
  obtain ⟨nb, no, rfl, hnb, hnat⟩ := hncell (by omega)
  obtain ⟨e0, e1, lv, e2, hks⟩ := hnat i hi
  rw [hnd] at e0 e1 hks
  have n0 : w.cell? ⟨p, 0, none⟩ = some (.slice (some ⟨nb, no, none⟩) ns.length nc) := by
    obtain ⟨ad, bf, h1, _⟩ := hs.out
    exact cell_of_row _ _ 0 _ _ _ h1
  have f0 : w.cell? ⟨nb, no + i * 3, none⟩ = some (.int .i64 18) := (hw.cell (p := ⟨nb, no + i * 3, none⟩) hnb (by simp)).trans e0
  have f1 : w.cell? ⟨nb, no + i * 3 + 1, none⟩ = some (.string (strL tx)) := (hw.cell (p := ⟨nb, no + i * 3 + 1, none⟩) hnb (by simp)).trans e1
  have f2 := (hw.cell (p := ⟨nb, no + i * 3 + 2, none⟩) hnb (by simp)).trans e2
  obtain ⟨N, hN⟩ : ∃ N, ns.length = N := ⟨_, rfl⟩
  obtain ⟨nv, hnv⟩ : ∃ nv, Value.slice (some ⟨nb, no, none⟩) ns.length nc = nv := ⟨_, rfl⟩
  rw [hN] at hi n0 hnc
  have HNV := Lib.hid hnv
  rw [hnv] at hs
  clear e0 e1 e2 hnat hncell hnb hnv hnd hN
  simp only at hl ⊢
  obtain ⟨ao, m, cap, rfl⟩ : ∃ ao n cap, lv = .slice ao n cap := by obtain ⟨a, c, h, _⟩ := hks; exact ⟨_, _, _, h⟩
  have HKS := Lib.hid hks
  clear hks
  have HTX := Lib.hid htx
  clear htx
  have HL := Lib.hid hl
  have HD := Lib.hid hd
  have HWP := Lib.hid hp
  have HW := Lib.hid hw
  have H0 : Hid (PgSt p nv bl acc w ∧ Kept [] W w) := ⟨hs, hw⟩
  clear hl hs hw hd hp
  rw [HNV.out]
  clear HNV
  go_enter Tryz.func23, Tryz.ntmps23
  obtain ⟨w1, hw1⟩ : ∃ w1, w.alloc (.cells #[.int .i64 18, .string (strL tx), .slice ao m cap] 41) = w1 := ⟨_, rfl⟩
  have H1 : Hid (PgSt p nv bl (acc) w1 ∧ Kept [] W w1 ∧ PF p w w1 ∧ w1.heap[w.heap.size]? = some (.cells #[.int .i64 18, .string (strL tx), .slice ao m cap] 41)) := by
    rw [← hw1]
    exact ⟨H0.out.1.go (Kept.alloc _ _ _), H0.out.2.trans (Kept.alloc _ _ _), PF.of (Kept.alloc _ _ _), heap_alloc_last _ _⟩
  have hqp : Hid (w.heap.size ≠ p ∧ p < w.heap.size) := ⟨by have := H0.out.1.lt; omega, H0.out.1.lt⟩
  have q0_1 : w1.cell? ⟨w.heap.size, 0, none⟩ = some (.int .i64 18) := cell_of_row _ _ 0 _ _ _ H1.out.2.2.2
  have q1_1 : w1.cell? ⟨w.heap.size, 1, none⟩ = some (.string (strL tx)) := cell_of_row _ _ 1 _ _ _ H1.out.2.2.2
  have q2_1 : w1.cell? ⟨w.heap.size, 2, none⟩ = some (.slice ao m cap) := cell_of_row _ _ 2 _ _ _ H1.out.2.2.2
  go_wp2_with fail
  refine (show Calls Tryz.prog 49 #[.agg #[.int .i64 18, .string (strL tx), .slice ao m cap]] w1 _ from pleaf_any 18 tx (.slice ao m cap) w1 (by omega) ⟨_, _, _, rfl⟩ (by have := HTX.out; omega)).mono ?_
  rintro e y1 ⟨rfl, hky⟩
  have G1 : Hid (PgSt p nv bl acc y1 ∧ PF p w y1) := ⟨H1.out.1.go hky, H1.out.2.2.1.trans (PF.of hky)⟩
  obtain ⟨v1, hv1⟩ : ∃ v, y1.alloc (.cells #[.string (strL (leafX 18 tx))] 9) = v := ⟨_, rfl⟩
  have K1 : Hid (Kept [] y1 v1 ∧ v1.heap[y1.heap.size]? = some (.cells #[.string (strL (leafX 18 tx))] 9)) := by
    rw [← hv1]
    exact ⟨Kept.alloc _ _ _, heap_alloc_last _ _⟩
  have HP := Lib.hid (pput_one p nv bl acc (leafX 18 tx) y1.heap.size v1 (G1.out.1.go K1.out.1) K1.out.2 (by have := HL.out; simp only [List.length_append, List.length_nil] at this; omega))
  clear hky q0_1 q1_1 q2_1 H1
  go_wp2_with fail
  refine HP.out.mono ?_
  rintro e y2 ⟨rfl, h, hk⟩
  have HF := Lib.hid (show PgSt p nv bl (acc ++ leafX 18 tx) y2 ∧ PF p w y2 from ⟨h, (G1.out.2.trans (PF.of K1.out.1)).trans hk⟩)
  clear h hk
  go_wp2_with fail
  go_end0
  exact ⟨rfl, by simpa only [List.append_nil] using HF.out.1, HF.out.2⟩
set_option maxRecDepth 100000 in
set_option maxHeartbeats 4000000 in
theorem pnode_block (W : World) (nv : Value) (ns : List Nod) (hns : NdIs W nv ns) (d i : Nat) (tx : List UInt8) (ks : List Nat) (fs : List (Nat → List UInt8)) (hnd : ns[i]? = some ⟨1, tx, ks⟩) (hfs : PCs W nv d ks fs) : PCt W nv (d + 1) i (fun bl => [123] ++ (linesT (ahS (bl + 1)) (fs.map fun f : Nat → List UInt8 => f (bl + 1)) ++ ((10 :: ahS bl) ++ [125]))) := by
  intro p bl acc w hp hw hs hd hl
  obtain ⟨hi, hnd⟩ := List.getElem?_eq_some_iff.1 hnd
  obtain ⟨na, nc, rfl, hnc, hn63, hncell⟩ := hns
  obtain ⟨nb, no, rfl, hnb, hnat⟩ := hncell (by omega)
  obtain ⟨e0, e1, lv, e2, hks⟩ := hnat i hi
  rw [hnd] at e0 e1 hks
  have n0 : w.cell? ⟨p, 0, none⟩ = some (.slice (some ⟨nb, no, none⟩) ns.length nc) := by
    obtain ⟨ad, bf, h1, _⟩ := hs.out
    exact cell_of_row _ _ 0 _ _ _ h1
  have f0 : w.cell? ⟨nb, no + i * 3, none⟩ = some (.int .i64 1) := (hw.cell (p := ⟨nb, no + i * 3, none⟩) hnb (by simp)).trans e0
  have f1 : w.cell? ⟨nb, no + i * 3 + 1, none⟩ = some (.string (strL tx)) := (hw.cell (p := ⟨nb, no + i * 3 + 1, none⟩) hnb (by simp)).trans e1
  have f2 := (hw.cell (p := ⟨nb, no + i * 3 + 2, none⟩) hnb (by simp)).trans e2
  obtain ⟨N, hN⟩ : ∃ N, ns.length = N := ⟨_, rfl⟩
  obtain ⟨nv, hnv⟩ : ∃ nv, Value.slice (some ⟨nb, no, none⟩) ns.length nc = nv := ⟨_, rfl⟩
  rw [hN] at hi n0 hnc
  have HNV := Lib.hid hnv
  rw [hnv] at hs hfs
  clear e0 e1 e2 hnat hncell hnb hnv hnd hN
  simp only at hl ⊢
  obtain ⟨ao, m, cap, rfl⟩ : ∃ ao n cap, lv = .slice ao n cap := by obtain ⟨a, c, h, _⟩ := hks; exact ⟨_, _, _, h⟩
  have HKS := Lib.hid hks
  clear hks
  have HFS := Lib.hid hfs
  clear hfs
  have HL := Lib.hid hl
  have HD := Lib.hid hd
  have HWP := Lib.hid hp
  have HW := Lib.hid hw
  have H0 : Hid (PgSt p nv bl acc w ∧ Kept [] W w) := ⟨hs, hw⟩
  clear hl hs hw hd hp
  rw [HNV.out]
  clear HNV
  go_enter Tryz.func23, Tryz.ntmps23
  obtain ⟨w1, hw1⟩ : ∃ w1, w.alloc (.cells #[.int .i64 1, .string (strL tx), .slice ao m cap] 41) = w1 := ⟨_, rfl⟩
  have H1 : Hid (PgSt p nv bl (acc) w1 ∧ Kept [] W w1 ∧ PF p w w1 ∧ w1.heap[w.heap.size]? = some (.cells #[.int .i64 1, .string (strL tx), .slice ao m cap] 41)) := by
    rw [← hw1]
    exact ⟨H0.out.1.go (Kept.alloc _ _ _), H0.out.2.trans (Kept.alloc _ _ _), PF.of (Kept.alloc _ _ _), heap_alloc_last _ _⟩
  have hqp : Hid (w.heap.size ≠ p ∧ p < w.heap.size) := ⟨by have := H0.out.1.lt; omega, H0.out.1.lt⟩
  have q0_1 : w1.cell? ⟨w.heap.size, 0, none⟩ = some (.int .i64 1) := cell_of_row _ _ 0 _ _ _ H1.out.2.2.2
  have q1_1 : w1.cell? ⟨w.heap.size, 1, none⟩ = some (.string (strL tx)) := cell_of_row _ _ 1 _ _ _ H1.out.2.2.2
  have q2_1 : w1.cell? ⟨w.heap.size, 2, none⟩ = some (.slice ao m cap) := cell_of_row _ _ 2 _ _ _ H1.out.2.2.2
  have HP := Lib.hid (pblock_any W nv d ks fs (.slice ao m cap) HKS.out HFS.out 1 tx p bl acc w1 HWP.out H1.out.2.1 H1.out.1 HD.out (by have := HL.out; simp only [List.length_append, List.length_cons, List.length_nil] at this ⊢; omega))
  go_wp2_with fail
  refine HP.out.mono ?_
  rintro e w2 ⟨rfl, h, hk⟩
  have H2 : Hid (PgSt p nv bl (acc ++ ([123] ++ (linesT (ahS (bl + 1)) (fs.map fun f : Nat → List UInt8 => f (bl + 1)) ++ ((10 :: ahS bl) ++ [125])))) w2 ∧ Kept [] W w2 ∧ PF p w w2 ∧ w2.heap[w.heap.size]? = some (.cells #[.int .i64 1, .string (strL tx), .slice ao m cap] 41)) := by
    have z := (PF.refl _ _).trans hk
    exact ⟨h, PF.kept HW.out (H1.out.2.2.1.trans z) HWP.out, H1.out.2.2.1.trans z, z.heap H1.out.2.2.2 hqp.out.1 (by decide)⟩
  clear h hk HP H1 q0_1 q1_1 q2_1
  have q0_2 : w2.cell? ⟨w.heap.size, 0, none⟩ = some (.int .i64 1) := cell_of_row _ _ 0 _ _ _ H2.out.2.2.2
  have q1_2 : w2.cell? ⟨w.heap.size, 1, none⟩ = some (.string (strL tx)) := cell_of_row _ _ 1 _ _ _ H2.out.2.2.2
  have q2_2 : w2.cell? ⟨w.heap.size, 2, none⟩ = some (.slice ao m cap) := cell_of_row _ _ 2 _ _ _ H2.out.2.2.2
  go_wp2_with fail
  go_end0
  exact ⟨rfl, by simpa only [List.append_assoc, List.cons_append, List.nil_append, List.append_nil] using H2.out.1, H2.out.2.2.1⟩
set_option maxRecDepth 100000 in
set_option maxHeartbeats 4000000 in
theorem pnode_class0 (W : World) (nv : Value) (ns : List Nod) (hns : NdIs W nv ns) (d i : Nat) (tx : List UInt8) (x : Nat) (f : Nat → List UInt8) (hnd : ns[i]? = some ⟨2, tx, [x]⟩) (hf : PCt W nv d x f) : PCt W nv (d) i (fun bl => [99, 108, 97, 115, 115, 32] ++ (tx ++ ([32] ++ f bl))) := by
  intro p bl acc w hp hw hs hd hl
  obtain ⟨hi, hnd⟩ := List.getElem?_eq_some_iff.1 hnd
  obtain ⟨na, nc, rfl, hnc, hn63, hncell⟩ := hns
  obtain ⟨nb, no, rfl, hnb, hnat⟩ := hncell (by omega)
  obtain ⟨e0, e1, lv, e2, hks⟩ := hnat i hi
  rw [hnd] at e0 e1 hks
  have n0 : w.cell? ⟨p, 0, none⟩ = some (.slice (some ⟨nb, no, none⟩) ns.length nc) := by
    obtain ⟨ad, bf, h1, _⟩ := hs.out
    exact cell_of_row _ _ 0 _ _ _ h1
  have f0 : w.cell? ⟨nb, no + i * 3, none⟩ = some (.int .i64 2) := (hw.cell (p := ⟨nb, no + i * 3, none⟩) hnb (by simp)).trans e0
  have f1 : w.cell? ⟨nb, no + i * 3 + 1, none⟩ = some (.string (strL tx)) := (hw.cell (p := ⟨nb, no + i * 3 + 1, none⟩) hnb (by simp)).trans e1
  have f2 := (hw.cell (p := ⟨nb, no + i * 3 + 2, none⟩) hnb (by simp)).trans e2
  obtain ⟨N, hN⟩ : ∃ N, ns.length = N := ⟨_, rfl⟩
  obtain ⟨nv, hnv⟩ : ∃ nv, Value.slice (some ⟨nb, no, none⟩) ns.length nc = nv := ⟨_, rfl⟩
  rw [hN] at hi n0 hnc
  have HNV := Lib.hid hnv
  rw [hnv] at hs hf
  clear e0 e1 e2 hnat hncell hnb hnv hnd hN
  simp only at hl ⊢
  obtain ⟨ao, m, cap, rfl⟩ : ∃ ao n cap, lv = .slice ao n cap := by obtain ⟨a, c, h, _⟩ := hks; exact ⟨_, _, _, h⟩
  have HKS := Lib.hid hks
  clear hks
  have HF := Lib.hid hf
  clear hf
  have HL := Lib.hid hl
  have HD := Lib.hid hd
  have HWP := Lib.hid hp
  have HW := Lib.hid hw
  have H0 : Hid (PgSt p nv bl acc w ∧ Kept [] W w) := ⟨hs, hw⟩
  clear hl hs hw hd hp
  rw [HNV.out]
  clear HNV
  go_enter Tryz.func23, Tryz.ntmps23
  obtain ⟨w1, hw1⟩ : ∃ w1, w.alloc (.cells #[.int .i64 2, .string (strL tx), .slice ao m cap] 41) = w1 := ⟨_, rfl⟩
  have H1 : Hid (PgSt p nv bl (acc) w1 ∧ Kept [] W w1 ∧ PF p w w1 ∧ w1.heap[w.heap.size]? = some (.cells #[.int .i64 2, .string (strL tx), .slice ao m cap] 41)) := by
    rw [← hw1]
    exact ⟨H0.out.1.go (Kept.alloc _ _ _), H0.out.2.trans (Kept.alloc _ _ _), PF.of (Kept.alloc _ _ _), heap_alloc_last _ _⟩
  have hqp : Hid (w.heap.size ≠ p ∧ p < w.heap.size) := ⟨by have := H0.out.1.lt; omega, H0.out.1.lt⟩
  have q0_1 : w1.cell? ⟨w.heap.size, 0, none⟩ = some (.int .i64 2) := cell_of_row _ _ 0 _ _ _ H1.out.2.2.2
  have q1_1 : w1.cell? ⟨w.heap.size, 1, none⟩ = some (.string (strL tx)) := cell_of_row _ _ 1 _ _ _ H1.out.2.2.2
  have q2_1 : w1.cell? ⟨w.heap.size, 2, none⟩ = some (.slice ao m cap) := cell_of_row _ _ 2 _ _ _ H1.out.2.2.2
  have HP := Lib.hid (pdecl_none W nv p bl d acc w1 HWP.out H1.out.2.1 H1.out.1 HD.out [99, 108, 97, 115, 115, 32] 2 tx (.slice ao m cap) x f HKS.out HF.out (by have := HL.out; simp only [List.length_append, List.length_cons, List.length_nil] at this ⊢; omega))
  go_wp2_with fail
  refine HP.out.mono ?_
  rintro e w2 ⟨rfl, h, hk⟩
  have H2 : Hid (PgSt p nv bl (acc ++ ([99, 108, 97, 115, 115, 32] ++ (tx ++ ([32] ++ f bl)))) w2 ∧ Kept [] W w2 ∧ PF p w w2 ∧ w2.heap[w.heap.size]? = some (.cells #[.int .i64 2, .string (strL tx), .slice ao m cap] 41)) := by
    have z := (PF.refl _ _).trans hk
    exact ⟨h, PF.kept HW.out (H1.out.2.2.1.trans z) HWP.out, H1.out.2.2.1.trans z, z.heap H1.out.2.2.2 hqp.out.1 (by decide)⟩
  clear h hk HP H1 q0_1 q1_1 q2_1
  have q0_2 : w2.cell? ⟨w.heap.size, 0, none⟩ = some (.int .i64 2) := cell_of_row _ _ 0 _ _ _ H2.out.2.2.2
  have q1_2 : w2.cell? ⟨w.heap.size, 1, none⟩ = some (.string (strL tx)) := cell_of_row _ _ 1 _ _ _ H2.out.2.2.2
  have q2_2 : w2.cell? ⟨w.heap.size, 2, none⟩ = some (.slice ao m cap) := cell_of_row _ _ 2 _ _ _ H2.out.2.2.2
  go_wp2_with fail
  go_end0
  exact ⟨rfl, by simpa only [List.append_assoc, List.cons_append, List.nil_append, List.append_nil] using H2.out.1, H2.out.2.2.1⟩
set_option maxRecDepth 100000 in
set_option maxHeartbeats 4000000 in
theorem pnode_class1 (W : World) (nv : Value) (ns : List Nod) (hns : NdIs W nv ns) (d i : Nat) (tx : List UInt8) (x : Nat) (r : List Nat) (f : Nat → List UInt8) (fs : List (Nat → List UInt8)) (hnd : ns[i]? = some ⟨2, tx, r ++ [x]⟩) (hr : r ≠ []) (hf : PCt W nv d x f) (hfs : PCs W nv d r fs) : PCt W nv (d) i (fun bl => [99, 108, 97, 115, 115, 32] ++ (tx ++ ([40] ++ (joinT [44, 32] (fs.map fun f : Nat → List UInt8 => f bl) ++ ([41] ++ ([32] ++ f bl)))))) := by
  intro p bl acc w hp hw hs hd hl
  obtain ⟨hi, hnd⟩ := List.getElem?_eq_some_iff.1 hnd
  obtain ⟨na, nc, rfl, hnc, hn63, hncell⟩ := hns
  obtain ⟨nb, no, rfl, hnb, hnat⟩ := hncell (by omega)
  obtain ⟨e0, e1, lv, e2, hks⟩ := hnat i hi
  rw [hnd] at e0 e1 hks
  have n0 : w.cell? ⟨p, 0, none⟩ = some (.slice (some ⟨nb, no, none⟩) ns.length nc) := by
    obtain ⟨ad, bf, h1, _⟩ := hs.out
    exact cell_of_row _ _ 0 _ _ _ h1
  have f0 : w.cell? ⟨nb, no + i * 3, none⟩ = some (.int .i64 2) := (hw.cell (p := ⟨nb, no + i * 3, none⟩) hnb (by simp)).trans e0
  have f1 : w.cell? ⟨nb, no + i * 3 + 1, none⟩ = some (.string (strL tx)) := (hw.cell (p := ⟨nb, no + i * 3 + 1, none⟩) hnb (by simp)).trans e1
  have f2 := (hw.cell (p := ⟨nb, no + i * 3 + 2, none⟩) hnb (by simp)).trans e2
  obtain ⟨N, hN⟩ : ∃ N, ns.length = N := ⟨_, rfl⟩
  obtain ⟨nv, hnv⟩ : ∃ nv, Value.slice (some ⟨nb, no, none⟩) ns.length nc = nv := ⟨_, rfl⟩
  rw [hN] at hi n0 hnc
  have HNV := Lib.hid hnv
  rw [hnv] at hs hf hfs
  clear e0 e1 e2 hnat hncell hnb hnv hnd hN
  simp only at hl ⊢
  obtain ⟨ao, m, cap, rfl⟩ : ∃ ao n cap, lv = .slice ao n cap := by obtain ⟨a, c, h, _⟩ := hks; exact ⟨_, _, _, h⟩
  have HKS := Lib.hid hks
  clear hks
  have HF := Lib.hid (And.intro hf (And.intro hfs hr))
  clear hf hfs hr
  have HL := Lib.hid hl
  have HD := Lib.hid hd
  have HWP := Lib.hid hp
  have HW := Lib.hid hw
  have H0 : Hid (PgSt p nv bl acc w ∧ Kept [] W w) := ⟨hs, hw⟩
  clear hl hs hw hd hp
  rw [HNV.out]
  clear HNV
  go_enter Tryz.func23, Tryz.ntmps23
  obtain ⟨w1, hw1⟩ : ∃ w1, w.alloc (.cells #[.int .i64 2, .string (strL tx), .slice ao m cap] 41) = w1 := ⟨_, rfl⟩
  have H1 : Hid (PgSt p nv bl (acc) w1 ∧ Kept [] W w1 ∧ PF p w w1 ∧ w1.heap[w.heap.size]? = some (.cells #[.int .i64 2, .string (strL tx), .slice ao m cap] 41)) := by
    rw [← hw1]
    exact ⟨H0.out.1.go (Kept.alloc _ _ _), H0.out.2.trans (Kept.alloc _ _ _), PF.of (Kept.alloc _ _ _), heap_alloc_last _ _⟩
  have hqp : Hid (w.heap.size ≠ p ∧ p < w.heap.size) := ⟨by have := H0.out.1.lt; omega, H0.out.1.lt⟩
  have q0_1 : w1.cell? ⟨w.heap.size, 0, none⟩ = some (.int .i64 2) := cell_of_row _ _ 0 _ _ _ H1.out.2.2.2
  have q1_1 : w1.cell? ⟨w.heap.size, 1, none⟩ = some (.string (strL tx)) := cell_of_row _ _ 1 _ _ _ H1.out.2.2.2
  have q2_1 : w1.cell? ⟨w.heap.size, 2, none⟩ = some (.slice ao m cap) := cell_of_row _ _ 2 _ _ _ H1.out.2.2.2
  have HP := Lib.hid (pdecl_more W nv p bl d acc w1 HWP.out H1.out.2.1 H1.out.1 HD.out [99, 108, 97, 115, 115, 32] 2 tx (.slice ao m cap) x r f fs HKS.out HF.out.2.2 HF.out.1 HF.out.2.1 (by have := HL.out; simp only [List.length_append, List.length_cons, List.length_nil] at this ⊢; omega))
  go_wp2_with fail
  refine HP.out.mono ?_
  rintro e w2 ⟨rfl, h, hk⟩
  have H2 : Hid (PgSt p nv bl (acc ++ ([99, 108, 97, 115, 115, 32] ++ (tx ++ ([40] ++ (joinT [44, 32] (fs.map fun f : Nat → List UInt8 => f bl) ++ ([41] ++ ([32] ++ f bl))))))) w2 ∧ Kept [] W w2 ∧ PF p w w2 ∧ w2.heap[w.heap.size]? = some (.cells #[.int .i64 2, .string (strL tx), .slice ao m cap] 41)) := by
    have z := (PF.refl _ _).trans hk
    exact ⟨h, PF.kept HW.out (H1.out.2.2.1.trans z) HWP.out, H1.out.2.2.1.trans z, z.heap H1.out.2.2.2 hqp.out.1 (by decide)⟩
  clear h hk HP H1 q0_1 q1_1 q2_1
  have q0_2 : w2.cell? ⟨w.heap.size, 0, none⟩ = some (.int .i64 2) := cell_of_row _ _ 0 _ _ _ H2.out.2.2.2
  have q1_2 : w2.cell? ⟨w.heap.size, 1, none⟩ = some (.string (strL tx)) := cell_of_row _ _ 1 _ _ _ H2.out.2.2.2
  have q2_2 : w2.cell? ⟨w.heap.size, 2, none⟩ = some (.slice ao m cap) := cell_of_row _ _ 2 _ _ _ H2.out.2.2.2
  go_wp2_with fail
  go_end0
  exact ⟨rfl, by simpa only [List.append_assoc, List.cons_append, List.nil_append, List.append_nil] using H2.out.1, H2.out.2.2.1⟩
set_option maxRecDepth 100000 in
set_option maxHeartbeats 4000000 in
theorem pnode_define0 (W : World) (nv : Value) (ns : List Nod) (hns : NdIs W nv ns) (d i : Nat) (tx : List UInt8) (x : Nat) (f : Nat → List UInt8) (hnd : ns[i]? = some ⟨3, tx, [x]⟩) (hf : PCt W nv d x f) : PCt W nv (d) i (fun bl => [100, 101, 102, 105, 110, 101, 32] ++ (tx ++ ([32] ++ f bl))) := by
  intro p bl acc w hp hw hs hd hl
  obtain ⟨hi, hnd⟩ := List.getElem?_eq_some_iff.1 hnd
  obtain ⟨na, nc, rfl, hnc, hn63, hncell⟩ := hns
  obtain ⟨nb, no, rfl, hnb, hnat⟩ := hncell (by omega)
  obtain ⟨e0, e1, lv, e2, hks⟩ := hnat i hi
  rw [hnd] at e0 e1 hks
  have n0 : w.cell? ⟨p, 0, none⟩ = some (.slice (some ⟨nb, no, none⟩) ns.length nc) := by
    obtain ⟨ad, bf, h1, _⟩ := hs.out
    exact cell_of_row _ _ 0 _ _ _ h1
  have f0 : w.cell? ⟨nb, no + i * 3, none⟩ = some (.int .i64 3) := (hw.cell (p := ⟨nb, no + i * 3, none⟩) hnb (by simp)).trans e0
  have f1 : w.cell? ⟨nb, no + i * 3 + 1, none⟩ = some (.string (strL tx)) := (hw.cell (p := ⟨nb, no + i * 3 + 1, none⟩) hnb (by simp)).trans e1
  have f2 := (hw.cell (p := ⟨nb, no + i * 3 + 2, none⟩) hnb (by simp)).trans e2
  obtain ⟨N, hN⟩ : ∃ N, ns.length = N := ⟨_, rfl⟩
  obtain ⟨nv, hnv⟩ : ∃ nv, Value.slice (some ⟨nb, no, none⟩) ns.length nc = nv := ⟨_, rfl⟩
  rw [hN] at hi n0 hnc
  have HNV := Lib.hid hnv
  rw [hnv] at hs hf
  clear e0 e1 e2 hnat hncell hnb hnv hnd hN
  simp only at hl ⊢
  obtain ⟨ao, m, cap, rfl⟩ : ∃ ao n cap, lv = .slice ao n cap := by obtain ⟨a, c, h, _⟩ := hks; exact ⟨_, _, _, h⟩
  have HKS := Lib.hid hks
  clear hks
  have HF := Lib.hid hf
  clear hf
  have HL := Lib.hid hl
  have HD := Lib.hid hd
  have HWP := Lib.hid hp
  have HW := Lib.hid hw
  have H0 : Hid (PgSt p nv bl acc w ∧ Kept [] W w) := ⟨hs, hw⟩
  clear hl hs hw hd hp
  rw [HNV.out]
  clear HNV
  go_enter Tryz.func23, Tryz.ntmps23
  obtain ⟨w1, hw1⟩ : ∃ w1, w.alloc (.cells #[.int .i64 3, .string (strL tx), .slice ao m cap] 41) = w1 := ⟨_, rfl⟩
  have H1 : Hid (PgSt p nv bl (acc) w1 ∧ Kept [] W w1 ∧ PF p w w1 ∧ w1.heap[w.heap.size]? = some (.cells #[.int .i64 3, .string (strL tx), .slice ao m cap] 41)) := by
    rw [← hw1]
    exact ⟨H0.out.1.go (Kept.alloc _ _ _), H0.out.2.trans (Kept.alloc _ _ _), PF.of (Kept.alloc _ _ _), heap_alloc_last _ _⟩
  have hqp : Hid (w.heap.size ≠ p ∧ p < w.heap.size) := ⟨by have := H0.out.1.lt; omega, H0.out.1.lt⟩
  have q0_1 : w1.cell? ⟨w.heap.size, 0, none⟩ = some (.int .i64 3) := cell_of_row _ _ 0 _ _ _ H1.out.2.2.2
  have q1_1 : w1.cell? ⟨w.heap.size, 1, none⟩ = some (.string (strL tx)) := cell_of_row _ _ 1 _ _ _ H1.out.2.2.2
  have q2_1 : w1.cell? ⟨w.heap.size, 2, none⟩ = some (.slice ao m cap) := cell_of_row _ _ 2 _ _ _ H1.out.2.2.2
  have HP := Lib.hid (pdecl_none W nv p bl d acc w1 HWP.out H1.out.2.1 H1.out.1 HD.out [100, 101, 102, 105, 110, 101, 32] 3 tx (.slice ao m cap) x f HKS.out HF.out (by have := HL.out; simp only [List.length_append, List.length_cons, List.length_nil] at this ⊢; omega))
  go_wp2_with fail
  refine HP.out.mono ?_
  rintro e w2 ⟨rfl, h, hk⟩
  have H2 : Hid (PgSt p nv bl (acc ++ ([100, 101, 102, 105, 110, 101, 32] ++ (tx ++ ([32] ++ f bl)))) w2 ∧ Kept [] W w2 ∧ PF p w w2 ∧ w2.heap[w.heap.size]? = some (.cells #[.int .i64 3, .string (strL tx), .slice ao m cap] 41)) := by
    have z := (PF.refl _ _).trans hk
    exact ⟨h, PF.kept HW.out (H1.out.2.2.1.trans z) HWP.out, H1.out.2.2.1.trans z, z.heap H1.out.2.2.2 hqp.out.1 (by decide)⟩
  clear h hk HP H1 q0_1 q1_1 q2_1
  have q0_2 : w2.cell? ⟨w.heap.size, 0, none⟩ = some (.int .i64 3) := cell_of_row _ _ 0 _ _ _ H2.out.2.2.2
  have q1_2 : w2.cell? ⟨w.heap.size, 1, none⟩ = some (.string (strL tx)) := cell_of_row _ _ 1 _ _ _ H2.out.2.2.2
  have q2_2 : w2.cell? ⟨w.heap.size, 2, none⟩ = some (.slice ao m cap) := cell_of_row _ _ 2 _ _ _ H2.out.2.2.2
  go_wp2_with fail
  go_end0
  exact ⟨rfl, by simpa only [List.append_assoc, List.cons_append, List.nil_append, List.append_nil] using H2.out.1, H2.out.2.2.1⟩
set_option maxRecDepth 100000 in
set_option maxHeartbeats 4000000 in
theorem pnode_define1 (W : World) (nv : Value) (ns : List Nod) (hns : NdIs W nv ns) (d i : Nat) (tx : List UInt8) (x : Nat) (r : List Nat) (f : Nat → List UInt8) (fs : List (Nat → List UInt8)) (hnd : ns[i]? = some ⟨3, tx, r ++ [x]⟩) (hr : r ≠ []) (hf : PCt W nv d x f) (hfs : PCs W nv d r fs) : PCt W nv (d) i (fun bl => [100, 101, 102, 105, 110, 101, 32] ++ (tx ++ ([40] ++ (joinT [44, 32] (fs.map fun f : Nat → List UInt8 => f bl) ++ ([41] ++ ([32] ++ f bl)))))) := by
  intro p bl acc w hp hw hs hd hl
  obtain ⟨hi, hnd⟩ := List.getElem?_eq_some_iff.1 hnd
  obtain ⟨na, nc, rfl, hnc, hn63, hncell⟩ := hns
  obtain ⟨nb, no, rfl, hnb, hnat⟩ := hncell (by omega)
  obtain ⟨e0, e1, lv, e2, hks⟩ := hnat i hi
  rw [hnd] at e0 e1 hks
  have n0 : w.cell? ⟨p, 0, none⟩ = some (.slice (some ⟨nb, no, none⟩) ns.length nc) := by
    obtain ⟨ad, bf, h1, _⟩ := hs.out
    exact cell_of_row _ _ 0 _ _ _ h1
  have f0 : w.cell? ⟨nb, no + i * 3, none⟩ = some (.int .i64 3) := (hw.cell (p := ⟨nb, no + i * 3, none⟩) hnb (by simp)).trans e0
  have f1 : w.cell? ⟨nb, no + i * 3 + 1, none⟩ = some (.string (strL tx)) := (hw.cell (p := ⟨nb, no + i * 3 + 1, none⟩) hnb (by simp)).trans e1
  have f2 := (hw.cell (p := ⟨nb, no + i * 3 + 2, none⟩) hnb (by simp)).trans e2
  obtain ⟨N, hN⟩ : ∃ N, ns.length = N := ⟨_, rfl⟩
  obtain ⟨nv, hnv⟩ : ∃ nv, Value.slice (some ⟨nb, no, none⟩) ns.length nc = nv := ⟨_, rfl⟩
  rw [hN] at hi n0 hnc
  have HNV := Lib.hid hnv
  rw [hnv] at hs hf hfs
  clear e0 e1 e2 hnat hncell hnb hnv hnd hN
  simp only at hl ⊢
  obtain ⟨ao, m, cap, rfl⟩ : ∃ ao n cap, lv = .slice ao n cap := by obtain ⟨a, c, h, _⟩ := hks; exact ⟨_, _, _, h⟩
  have HKS := Lib.hid hks
  clear hks
  have HF := Lib.hid (And.intro hf (And.intro hfs hr))
  clear hf hfs hr
  have HL := Lib.hid hl
  have HD := Lib.hid hd
  have HWP := Lib.hid hp
  have HW := Lib.hid hw
  have H0 : Hid (PgSt p nv bl acc w ∧ Kept [] W w) := ⟨hs, hw⟩
  clear hl hs hw hd hp
  rw [HNV.out]
  clear HNV
  go_enter Tryz.func23, Tryz.ntmps23
  obtain ⟨w1, hw1⟩ : ∃ w1, w.alloc (.cells #[.int .i64 3, .string (strL tx), .slice ao m cap] 41) = w1 := ⟨_, rfl⟩
  have H1 : Hid (PgSt p nv bl (acc) w1 ∧ Kept [] W w1 ∧ PF p w w1 ∧ w1.heap[w.heap.size]? = some (.cells #[.int .i64 3, .string (strL tx), .slice ao m cap] 41)) := by
    rw [← hw1]
    exact ⟨H0.out.1.go (Kept.alloc _ _ _), H0.out.2.trans (Kept.alloc _ _ _), PF.of (Kept.alloc _ _ _), heap_alloc_last _ _⟩
  have hqp : Hid (w.heap.size ≠ p ∧ p < w.heap.size) := ⟨by have := H0.out.1.lt; omega, H0.out.1.lt⟩
  have q0_1 : w1.cell? ⟨w.heap.size, 0, none⟩ = some (.int .i64 3) := cell_of_row _ _ 0 _ _ _ H1.out.2.2.2
  have q1_1 : w1.cell? ⟨w.heap.size, 1, none⟩ = some (.string (strL tx)) := cell_of_row _ _ 1 _ _ _ H1.out.2.2.2
  have q2_1 : w1.cell? ⟨w.heap.size, 2, none⟩ = some (.slice ao m cap) := cell_of_row _ _ 2 _ _ _ H1.out.2.2.2
  have HP := Lib.hid (pdecl_more W nv p bl d acc w1 HWP.out H1.out.2.1 H1.out.1 HD.out [100, 101, 102, 105, 110, 101, 32] 3 tx (.slice ao m cap) x r f fs HKS.out HF.out.2.2 HF.out.1 HF.out.2.1 (by have := HL.out; simp only [List.length_append, List.length_cons, List.length_nil] at this ⊢; omega))
  go_wp2_with fail
  refine HP.out.mono ?_
  rintro e w2 ⟨rfl, h, hk⟩
  have H2 : Hid (PgSt p nv bl (acc ++ ([100, 101, 102, 105, 110, 101, 32] ++ (tx ++ ([40] ++ (joinT [44, 32] (fs.map fun f : Nat → List UInt8 => f bl) ++ ([41] ++ ([32] ++ f bl))))))) w2 ∧ Kept [] W w2 ∧ PF p w w2 ∧ w2.heap[w.heap.size]? = some (.cells #[.int .i64 3, .string (strL tx), .slice ao m cap] 41)) := by
    have z := (PF.refl _ _).trans hk
    exact ⟨h, PF.kept HW.out (H1.out.2.2.1.trans z) HWP.out, H1.out.2.2.1.trans z, z.heap H1.out.2.2.2 hqp.out.1 (by decide)⟩
  clear h hk HP H1 q0_1 q1_1 q2_1
  have q0_2 : w2.cell? ⟨w.heap.size, 0, none⟩ = some (.int .i64 3) := cell_of_row _ _ 0 _ _ _ H2.out.2.2.2
  have q1_2 : w2.cell? ⟨w.heap.size, 1, none⟩ = some (.string (strL tx)) := cell_of_row _ _ 1 _ _ _ H2.out.2.2.2
  have q2_2 : w2.cell? ⟨w.heap.size, 2, none⟩ = some (.slice ao m cap) := cell_of_row _ _ 2 _ _ _ H2.out.2.2.2
  go_wp2_with fail
  go_end0
  exact ⟨rfl, by simpa only [List.append_assoc, List.cons_append, List.nil_append, List.append_nil] using H2.out.1, H2.out.2.2.1⟩
set_option maxRecDepth 100000 in
set_option maxHeartbeats 4000000 in
theorem pnode_param0 (W : World) (nv : Value) (ns : List Nod) (hns : NdIs W nv ns) (d i : Nat) (tx : List UInt8) (hnd : ns[i]? = some ⟨4, tx, []⟩) : PCt W nv (d) i (fun _ => (36 :: tx) ++ []) := by
  intro p bl acc w hp hw hs hd hl
  obtain ⟨hi, hnd⟩ := List.getElem?_eq_some_iff.1 hnd
  obtain ⟨na, nc, rfl, hnc, hn63, hncell⟩ := hns
  obtain ⟨nb, no, rfl, hnb, hnat⟩ := hncell (by omega)
  obtain ⟨e0, e1, lv, e2, hks⟩ := hnat i hi
  rw [hnd] at e0 e1 hks
  have n0 : w.cell? ⟨p, 0, none⟩ = some (.slice (some ⟨nb, no, none⟩) ns.length nc) := by
    obtain ⟨ad, bf, h1, _⟩ := hs.out
    exact cell_of_row _ _ 0 _ _ _ h1
  have f0 : w.cell? ⟨nb, no + i * 3, none⟩ = some (.int .i64 4) := (hw.cell (p := ⟨nb, no + i * 3, none⟩) hnb (by simp)).trans e0
  have f1 : w.cell? ⟨nb, no + i * 3 + 1, none⟩ = some (.string (strL tx)) := (hw.cell (p := ⟨nb, no + i * 3 + 1, none⟩) hnb (by simp)).trans e1
  have f2 := (hw.cell (p := ⟨nb, no + i * 3 + 2, none⟩) hnb (by simp)).trans e2
  obtain ⟨N, hN⟩ : ∃ N, ns.length = N := ⟨_, rfl⟩
  obtain ⟨nv, hnv⟩ : ∃ nv, Value.slice (some ⟨nb, no, none⟩) ns.length nc = nv := ⟨_, rfl⟩
  rw [hN] at hi n0 hnc
  have HNV := Lib.hid hnv
  rw [hnv] at hs
  clear e0 e1 e2 hnat hncell hnb hnv hnd hN
  simp only at hl ⊢
  obtain ⟨ao, m, cap, rfl⟩ : ∃ ao n cap, lv = .slice ao n cap := by obtain ⟨a, c, h, _⟩ := hks; exact ⟨_, _, _, h⟩
  have HKS := Lib.hid hks
  clear hks
  have HL := Lib.hid hl
  have HD := Lib.hid hd
  have HWP := Lib.hid hp
  have HW := Lib.hid hw
  have H0 : Hid (PgSt p nv bl acc w ∧ Kept [] W w) := ⟨hs, hw⟩
  clear hl hs hw hd hp
  rw [HNV.out]
  clear HNV
  go_enter Tryz.func23, Tryz.ntmps23
  obtain ⟨w1, hw1⟩ : ∃ w1, w.alloc (.cells #[.int .i64 4, .string (strL tx), .slice ao m cap] 41) = w1 := ⟨_, rfl⟩
  have H1 : Hid (PgSt p nv bl (acc) w1 ∧ Kept [] W w1 ∧ PF p w w1 ∧ w1.heap[w.heap.size]? = some (.cells #[.int .i64 4, .string (strL tx), .slice ao m cap] 41)) := by
    rw [← hw1]
    exact ⟨H0.out.1.go (Kept.alloc _ _ _), H0.out.2.trans (Kept.alloc _ _ _), PF.of (Kept.alloc _ _ _), heap_alloc_last _ _⟩
  have hqp : Hid (w.heap.size ≠ p ∧ p < w.heap.size) := ⟨by have := H0.out.1.lt; omega, H0.out.1.lt⟩
  have q0_1 : w1.cell? ⟨w.heap.size, 0, none⟩ = some (.int .i64 4) := cell_of_row _ _ 0 _ _ _ H1.out.2.2.2
  have q1_1 : w1.cell? ⟨w.heap.size, 1, none⟩ = some (.string (strL tx)) := cell_of_row _ _ 1 _ _ _ H1.out.2.2.2
  have q2_1 : w1.cell? ⟨w.heap.size, 2, none⟩ = some (.slice ao m cap) := cell_of_row _ _ 2 _ _ _ H1.out.2.2.2
  have HP := Lib.hid (pvar_none W nv p bl d acc w1 HWP.out H1.out.2.1 H1.out.1 HD.out 4 tx (.slice ao m cap) HKS.out (by have := HL.out; simp only [List.length_append, List.length_cons, List.length_nil] at this ⊢; omega))
  go_wp2_with fail
  refine HP.out.mono ?_
  rintro e w2 ⟨rfl, h, hk⟩
  have H2 : Hid (PgSt p nv bl (acc ++ ((36 :: tx) ++ [])) w2 ∧ Kept [] W w2 ∧ PF p w w2 ∧ w2.heap[w.heap.size]? = some (.cells #[.int .i64 4, .string (strL tx), .slice ao m cap] 41)) := by
    have z := (PF.refl _ _).trans hk
    exact ⟨h, PF.kept HW.out (H1.out.2.2.1.trans z) HWP.out, H1.out.2.2.1.trans z, z.heap H1.out.2.2.2 hqp.out.1 (by decide)⟩
  clear h hk HP H1 q0_1 q1_1 q2_1
  have q0_2 : w2.cell? ⟨w.heap.size, 0, none⟩ = some (.int .i64 4) := cell_of_row _ _ 0 _ _ _ H2.out.2.2.2
  have q1_2 : w2.cell? ⟨w.heap.size, 1, none⟩ = some (.string (strL tx)) := cell_of_row _ _ 1 _ _ _ H2.out.2.2.2
  have q2_2 : w2.cell? ⟨w.heap.size, 2, none⟩ = some (.slice ao m cap) := cell_of_row _ _ 2 _ _ _ H2.out.2.2.2
  go_wp2_with fail
  go_end0
  exact ⟨rfl, by simpa only [List.append_assoc, List.cons_append, List.nil_append, List.append_nil] using H2.out.1, H2.out.2.2.1⟩
set_option maxRecDepth 100000 in
set_option maxHeartbeats 4000000 in
theorem pnode_param1 (W : World) (nv : Value) (ns : List Nod) (hns : NdIs W nv ns) (d i : Nat) (tx : List UInt8) (x : Nat) (f : Nat → List UInt8) (hnd : ns[i]? = some ⟨4, tx, [x]⟩) (hf : PCt W nv d x f) : PCt W nv (d) i (fun bl => (36 :: tx) ++ ([32, 61, 32] ++ f bl)) := by
  intro p bl acc w hp hw hs hd hl
  obtain ⟨hi, hnd⟩ := List.getElem?_eq_some_iff.1 hnd
  obtain ⟨na, nc, rfl, hnc, hn63, hncell⟩ := hns
  obtain ⟨nb, no, rfl, hnb, hnat⟩ := hncell (by omega)
  obtain ⟨e0, e1, lv, e2, hks⟩ := hnat i hi
  rw [hnd] at e0 e1 hks
  have n0 : w.cell? ⟨p, 0, none⟩ = some (.slice (some ⟨nb, no, none⟩) ns.length nc) := by
    obtain ⟨ad, bf, h1, _⟩ := hs.out
    exact cell_of_row _ _ 0 _ _ _ h1
  have f0 : w.cell? ⟨nb, no + i * 3, none⟩ = some (.int .i64 4) := (hw.cell (p := ⟨nb, no + i * 3, none⟩) hnb (by simp)).trans e0
  have f1 : w.cell? ⟨nb, no + i * 3 + 1, none⟩ = some (.string (strL tx)) := (hw.cell (p := ⟨nb, no + i * 3 + 1, none⟩) hnb (by simp)).trans e1
  have f2 := (hw.cell (p := ⟨nb, no + i * 3 + 2, none⟩) hnb (by simp)).trans e2
  obtain ⟨N, hN⟩ : ∃ N, ns.length = N := ⟨_, rfl⟩
  obtain ⟨nv, hnv⟩ : ∃ nv, Value.slice (some ⟨nb, no, none⟩) ns.length nc = nv := ⟨_, rfl⟩
  rw [hN] at hi n0 hnc
  have HNV := Lib.hid hnv
  rw [hnv] at hs hf
  clear e0 e1 e2 hnat hncell hnb hnv hnd hN
  simp only at hl ⊢
  obtain ⟨ao, m, cap, rfl⟩ : ∃ ao n cap, lv = .slice ao n cap := by obtain ⟨a, c, h, _⟩ := hks; exact ⟨_, _, _, h⟩
  have HKS := Lib.hid hks
  clear hks
  have HF := Lib.hid hf
  clear hf
  have HL := Lib.hid hl
  have HD := Lib.hid hd
  have HWP := Lib.hid hp
  have HW := Lib.hid hw
  have H0 : Hid (PgSt p nv bl acc w ∧ Kept [] W w) := ⟨hs, hw⟩
  clear hl hs hw hd hp
  rw [HNV.out]
  clear HNV
  go_enter Tryz.func23, Tryz.ntmps23
  obtain ⟨w1, hw1⟩ : ∃ w1, w.alloc (.cells #[.int .i64 4, .string (strL tx), .slice ao m cap] 41) = w1 := ⟨_, rfl⟩
  have H1 : Hid (PgSt p nv bl (acc) w1 ∧ Kept [] W w1 ∧ PF p w w1 ∧ w1.heap[w.heap.size]? = some (.cells #[.int .i64 4, .string (strL tx), .slice ao m cap] 41)) := by
    rw [← hw1]
    exact ⟨H0.out.1.go (Kept.alloc _ _ _), H0.out.2.trans (Kept.alloc _ _ _), PF.of (Kept.alloc _ _ _), heap_alloc_last _ _⟩
  have hqp : Hid (w.heap.size ≠ p ∧ p < w.heap.size) := ⟨by have := H0.out.1.lt; omega, H0.out.1.lt⟩
  have q0_1 : w1.cell? ⟨w.heap.size, 0, none⟩ = some (.int .i64 4) := cell_of_row _ _ 0 _ _ _ H1.out.2.2.2
  have q1_1 : w1.cell? ⟨w.heap.size, 1, none⟩ = some (.string (strL tx)) := cell_of_row _ _ 1 _ _ _ H1.out.2.2.2
  have q2_1 : w1.cell? ⟨w.heap.size, 2, none⟩ = some (.slice ao m cap) := cell_of_row _ _ 2 _ _ _ H1.out.2.2.2
  have HP := Lib.hid (pvar_one W nv p bl d acc w1 HWP.out H1.out.2.1 H1.out.1 HD.out 4 tx (.slice ao m cap) x f HKS.out HF.out (by have := HL.out; simp only [List.length_append, List.length_cons, List.length_nil] at this ⊢; omega))
  go_wp2_with fail
  refine HP.out.mono ?_
  rintro e w2 ⟨rfl, h, hk⟩
  have H2 : Hid (PgSt p nv bl (acc ++ ((36 :: tx) ++ ([32, 61, 32] ++ f bl))) w2 ∧ Kept [] W w2 ∧ PF p w w2 ∧ w2.heap[w.heap.size]? = some (.cells #[.int .i64 4, .string (strL tx), .slice ao m cap] 41)) := by
    have z := (PF.refl _ _).trans hk
    exact ⟨h, PF.kept HW.out (H1.out.2.2.1.trans z) HWP.out, H1.out.2.2.1.trans z, z.heap H1.out.2.2.2 hqp.out.1 (by decide)⟩
  clear h hk HP H1 q0_1 q1_1 q2_1
  have q0_2 : w2.cell? ⟨w.heap.size, 0, none⟩ = some (.int .i64 4) := cell_of_row _ _ 0 _ _ _ H2.out.2.2.2
  have q1_2 : w2.cell? ⟨w.heap.size, 1, none⟩ = some (.string (strL tx)) := cell_of_row _ _ 1 _ _ _ H2.out.2.2.2
  have q2_2 : w2.cell? ⟨w.heap.size, 2, none⟩ = some (.slice ao m cap) := cell_of_row _ _ 2 _ _ _ H2.out.2.2.2
  go_wp2_with fail
  go_end0
  exact ⟨rfl, by simpa only [List.append_assoc, List.cons_append, List.nil_append, List.append_nil] using H2.out.1, H2.out.2.2.1⟩
set_option maxRecDepth 100000 in
set_option maxHeartbeats 4000000 in
theorem pnode_set1 (W : World) (nv : Value) (ns : List Nod) (hns : NdIs W nv ns) (d i : Nat) (tx : List UInt8) (x : Nat) (f : Nat → List UInt8) (hnd : ns[i]? = some ⟨6, tx, [x]⟩) (hf : PCt W nv d x f) : PCt W nv (d) i (fun bl => (36 :: tx) ++ ([32, 61, 32] ++ f bl)) := by
  intro p bl acc w hp hw hs hd hl
  obtain ⟨hi, hnd⟩ := List.getElem?_eq_some_iff.1 hnd
  obtain ⟨na, nc, rfl, hnc, hn63, hncell⟩ := hns
  obtain ⟨nb, no, rfl, hnb, hnat⟩ := hncell (by omega)
  obtain ⟨e0, e1, lv, e2, hks⟩ := hnat i hi
  rw [hnd] at e0 e1 hks
  have n0 : w.cell? ⟨p, 0, none⟩ = some (.slice (some ⟨nb, no, none⟩) ns.length nc) := by
    obtain ⟨ad, bf, h1, _⟩ := hs.out
    exact cell_of_row _ _ 0 _ _ _ h1
  have f0 : w.cell? ⟨nb, no + i * 3, none⟩ = some (.int .i64 6) := (hw.cell (p := ⟨nb, no + i * 3, none⟩) hnb (by simp)).trans e0
  have f1 : w.cell? ⟨nb, no + i * 3 + 1, none⟩ = some (.string (strL tx)) := (hw.cell (p := ⟨nb, no + i * 3 + 1, none⟩) hnb (by simp)).trans e1
  have f2 := (hw.cell (p := ⟨nb, no + i * 3 + 2, none⟩) hnb (by simp)).trans e2
  obtain ⟨N, hN⟩ : ∃ N, ns.length = N := ⟨_, rfl⟩
  obtain ⟨nv, hnv⟩ : ∃ nv, Value.slice (some ⟨nb, no, none⟩) ns.length nc = nv := ⟨_, rfl⟩
  rw [hN] at hi n0 hnc
  have HNV := Lib.hid hnv
  rw [hnv] at hs hf
  clear e0 e1 e2 hnat hncell hnb hnv hnd hN
  simp only at hl ⊢
  obtain ⟨ao, m, cap, rfl⟩ : ∃ ao n cap, lv = .slice ao n cap := by obtain ⟨a, c, h, _⟩ := hks; exact ⟨_, _, _, h⟩
  have HKS := Lib.hid hks
  clear hks
  have HF := Lib.hid hf
  clear hf
  have HL := Lib.hid hl
  have HD := Lib.hid hd
  have HWP := Lib.hid hp
  have HW := Lib.hid hw
  have H0 : Hid (PgSt p nv bl acc w ∧ Kept [] W w) := ⟨hs, hw⟩
  clear hl hs hw hd hp
  rw [HNV.out]
  clear HNV
  go_enter Tryz.func23, Tryz.ntmps23
  obtain ⟨w1, hw1⟩ : ∃ w1, w.alloc (.cells #[.int .i64 6, .string (strL tx), .slice ao m cap] 41) = w1 := ⟨_, rfl⟩
  have H1 : Hid (PgSt p nv bl (acc) w1 ∧ Kept [] W w1 ∧ PF p w w1 ∧ w1.heap[w.heap.size]? = some (.cells #[.int .i64 6, .string (strL tx), .slice ao m cap] 41)) := by
    rw [← hw1]
    exact ⟨H0.out.1.go (Kept.alloc _ _ _), H0.out.2.trans (Kept.alloc _ _ _), PF.of (Kept.alloc _ _ _), heap_alloc_last _ _⟩
  have hqp : Hid (w.heap.size ≠ p ∧ p < w.heap.size) := ⟨by have := H0.out.1.lt; omega, H0.out.1.lt⟩
  have q0_1 : w1.cell? ⟨w.heap.size, 0, none⟩ = some (.int .i64 6) := cell_of_row _ _ 0 _ _ _ H1.out.2.2.2
  have q1_1 : w1.cell? ⟨w.heap.size, 1, none⟩ = some (.string (strL tx)) := cell_of_row _ _ 1 _ _ _ H1.out.2.2.2
  have q2_1 : w1.cell? ⟨w.heap.size, 2, none⟩ = some (.slice ao m cap) := cell_of_row _ _ 2 _ _ _ H1.out.2.2.2
  have HP := Lib.hid (pvar_one W nv p bl d acc w1 HWP.out H1.out.2.1 H1.out.1 HD.out 6 tx (.slice ao m cap) x f HKS.out HF.out (by have := HL.out; simp only [List.length_append, List.length_cons, List.length_nil] at this ⊢; omega))
  go_wp2_with fail
  refine HP.out.mono ?_
  rintro e w2 ⟨rfl, h, hk⟩
  have H2 : Hid (PgSt p nv bl (acc ++ ((36 :: tx) ++ ([32, 61, 32] ++ f bl))) w2 ∧ Kept [] W w2 ∧ PF p w w2 ∧ w2.heap[w.heap.size]? = some (.cells #[.int .i64 6, .string (strL tx), .slice ao m cap] 41)) := by
    have z := (PF.refl _ _).trans hk
    exact ⟨h, PF.kept HW.out (H1.out.2.2.1.trans z) HWP.out, H1.out.2.2.1.trans z, z.heap H1.out.2.2.2 hqp.out.1 (by decide)⟩
  clear h hk HP H1 q0_1 q1_1 q2_1
  have q0_2 : w2.cell? ⟨w.heap.size, 0, none⟩ = some (.int .i64 6) := cell_of_row _ _ 0 _ _ _ H2.out.2.2.2
  have q1_2 : w2.cell? ⟨w.heap.size, 1, none⟩ = some (.string (strL tx)) := cell_of_row _ _ 1 _ _ _ H2.out.2.2.2
  have q2_2 : w2.cell? ⟨w.heap.size, 2, none⟩ = some (.slice ao m cap) := cell_of_row _ _ 2 _ _ _ H2.out.2.2.2
  go_wp2_with fail
  go_end0
  exact ⟨rfl, by simpa only [List.append_assoc, List.cons_append, List.nil_append, List.append_nil] using H2.out.1, H2.out.2.2.1⟩
set_option maxRecDepth 100000 in
set_option maxHeartbeats 4000000 in
theorem pnode_include (W : World) (nv : Value) (ns : List Nod) (hns : NdIs W nv ns) (d i : Nat) (tx : List UInt8) (ks : List Nat) (hnd : ns[i]? = some ⟨5, tx, ks⟩) : PCt W nv (d) i (fun _ => [105, 110, 99, 108, 117, 100, 101, 32] ++ tx) := by
  intro p bl acc w hp hw hs hd hl
  obtain ⟨hi, hnd⟩ := List.getElem?_eq_some_iff.1 hnd
  obtain ⟨na, nc, rfl, hnc, hn63, hncell⟩ := hns
  obtain ⟨nb, no, rfl, hnb, hnat⟩ := hncell (by omega)
  obtain ⟨e0, e1, lv, e2, hks⟩ := hnat i hi
  rw [hnd] at e0 e1 hks
  have n0 : w.cell? ⟨p, 0, none⟩ = some (.slice (some ⟨nb, no, none⟩) ns.length nc) := by
    obtain ⟨ad, bf, h1, _⟩ := hs.out
    exact cell_of_row _ _ 0 _ _ _ h1
  have f0 : w.cell? ⟨nb, no + i * 3, none⟩ = some (.int .i64 5) := (hw.cell (p := ⟨nb, no + i * 3, none⟩) hnb (by simp)).trans e0
  have f1 : w.cell? ⟨nb, no + i * 3 + 1, none⟩ = some (.string (strL tx)) := (hw.cell (p := ⟨nb, no + i * 3 + 1, none⟩) hnb (by simp)).trans e1
  have f2 := (hw.cell (p := ⟨nb, no + i * 3 + 2, none⟩) hnb (by simp)).trans e2
  obtain ⟨N, hN⟩ : ∃ N, ns.length = N := ⟨_, rfl⟩
  obtain ⟨nv, hnv⟩ : ∃ nv, Value.slice (some ⟨nb, no, none⟩) ns.length nc = nv := ⟨_, rfl⟩
  rw [hN] at hi n0 hnc
  have HNV := Lib.hid hnv
  rw [hnv] at hs
  clear e0 e1 e2 hnat hncell hnb hnv hnd hN
  simp only at hl ⊢
  obtain ⟨ao, m, cap, rfl⟩ : ∃ ao n cap, lv = .slice ao n cap := by obtain ⟨a, c, h, _⟩ := hks; exact ⟨_, _, _, h⟩
  have HKS := Lib.hid hks
  clear hks
  have HL := Lib.hid hl
  have HD := Lib.hid hd
  have HWP := Lib.hid hp
  have HW := Lib.hid hw
  have H0 : Hid (PgSt p nv bl acc w ∧ Kept [] W w) := ⟨hs, hw⟩
  clear hl hs hw hd hp
  rw [HNV.out]
  clear HNV
  go_enter Tryz.func23, Tryz.ntmps23
  obtain ⟨w1, hw1⟩ : ∃ w1, w.alloc (.cells #[.int .i64 5, .string (strL tx), .slice ao m cap] 41) = w1 := ⟨_, rfl⟩
  have H1 : Hid (PgSt p nv bl (acc) w1 ∧ Kept [] W w1 ∧ PF p w w1 ∧ w1.heap[w.heap.size]? = some (.cells #[.int .i64 5, .string (strL tx), .slice ao m cap] 41)) := by
    rw [← hw1]
    exact ⟨H0.out.1.go (Kept.alloc _ _ _), H0.out.2.trans (Kept.alloc _ _ _), PF.of (Kept.alloc _ _ _), heap_alloc_last _ _⟩
  have hqp : Hid (w.heap.size ≠ p ∧ p < w.heap.size) := ⟨by have := H0.out.1.lt; omega, H0.out.1.lt⟩
  have q0_1 : w1.cell? ⟨w.heap.size, 0, none⟩ = some (.int .i64 5) := cell_of_row _ _ 0 _ _ _ H1.out.2.2.2
  have q1_1 : w1.cell? ⟨w.heap.size, 1, none⟩ = some (.string (strL tx)) := cell_of_row _ _ 1 _ _ _ H1.out.2.2.2
  have q2_1 : w1.cell? ⟨w.heap.size, 2, none⟩ = some (.slice ao m cap) := cell_of_row _ _ 2 _ _ _ H1.out.2.2.2
  obtain ⟨v1, hv1⟩ : ∃ v, w1.alloc (.cells #[.string ⟨#[105, 110, 99, 108, 117, 100, 101, 32]⟩, .string (strL tx)] 9) = v := ⟨_, rfl⟩
  have K1 : Hid (Kept [] w1 v1 ∧ v1.heap[w1.heap.size]? = some (.cells #[.string (strL [105, 110, 99, 108, 117, 100, 101, 32]), .string (strL tx)] 9)) := by
    rw [← hv1]
    exact ⟨Kept.alloc _ _ _, heap_alloc_last _ _⟩
  have HP := Lib.hid (pput_two p nv bl (acc) [105, 110, 99, 108, 117, 100, 101, 32] tx w1.heap.size v1 (H1.out.1.go K1.out.1) K1.out.2 (by have := HL.out; simp only [List.length_append, List.length_cons, List.length_nil] at this ⊢; omega))
  go_wp2_with fail
  refine HP.out.mono ?_
  rintro e w2 ⟨rfl, h, hk⟩
  have H2 : Hid (PgSt p nv bl (acc ++ ([105, 110, 99, 108, 117, 100, 101, 32] ++ tx)) w2 ∧ Kept [] W w2 ∧ PF p w w2 ∧ w2.heap[w.heap.size]? = some (.cells #[.int .i64 5, .string (strL tx), .slice ao m cap] 41)) := by
    have z := (PF.of K1.out.1).trans hk
    exact ⟨h, PF.kept HW.out (H1.out.2.2.1.trans z) HWP.out, H1.out.2.2.1.trans z, z.heap H1.out.2.2.2 hqp.out.1 (by decide)⟩
  clear h hk HP H1 q0_1 q1_1 q2_1 hv1 K1
  have q0_2 : w2.cell? ⟨w.heap.size, 0, none⟩ = some (.int .i64 5) := cell_of_row _ _ 0 _ _ _ H2.out.2.2.2
  have q1_2 : w2.cell? ⟨w.heap.size, 1, none⟩ = some (.string (strL tx)) := cell_of_row _ _ 1 _ _ _ H2.out.2.2.2
  have q2_2 : w2.cell? ⟨w.heap.size, 2, none⟩ = some (.slice ao m cap) := cell_of_row _ _ 2 _ _ _ H2.out.2.2.2
  go_wp2_with fail
  go_end0
  exact ⟨rfl, by simpa only [List.append_assoc, List.cons_append, List.nil_append, List.append_nil] using H2.out.1, H2.out.2.2.1⟩
set_option maxRecDepth 100000 in
set_option maxHeartbeats 4000000 in
theorem pnode_if (W : World) (nv : Value) (ns : List Nod) (hns : NdIs W nv ns) (d i : Nat) (tx : List UInt8) (x : Nat) (r : List Nat) (f : Nat → List UInt8) (fs : List (Nat → List UInt8)) (hnd : ns[i]? = some ⟨7, tx, x :: r⟩) (hr : r ≠ []) (hf : PCt W nv d x f) (hfs : PCs W nv d r fs) : PCt W nv (d) i (fun bl => [105, 102, 32] ++ (f bl ++ ([32] ++ joinT [32, 101, 108, 115, 101, 32] (fs.map fun f : Nat → List UInt8 => f bl)))) := by
  intro p bl acc w hp hw hs hd hl
  obtain ⟨hi, hnd⟩ := List.getElem?_eq_some_iff.1 hnd
  obtain ⟨na, nc, rfl, hnc, hn63, hncell⟩ := hns
  obtain ⟨nb, no, rfl, hnb, hnat⟩ := hncell (by omega)
  obtain ⟨e0, e1, lv, e2, hks⟩ := hnat i hi
  rw [hnd] at e0 e1 hks
  have n0 : w.cell? ⟨p, 0, none⟩ = some (.slice (some ⟨nb, no, none⟩) ns.length nc) := by
    obtain ⟨ad, bf, h1, _⟩ := hs.out
    exact cell_of_row _ _ 0 _ _ _ h1
  have f0 : w.cell? ⟨nb, no + i * 3, none⟩ = some (.int .i64 7) := (hw.cell (p := ⟨nb, no + i * 3, none⟩) hnb (by simp)).trans e0
  have f1 : w.cell? ⟨nb, no + i * 3 + 1, none⟩ = some (.string (strL tx)) := (hw.cell (p := ⟨nb, no + i * 3 + 1, none⟩) hnb (by simp)).trans e1
  have f2 := (hw.cell (p := ⟨nb, no + i * 3 + 2, none⟩) hnb (by simp)).trans e2
  obtain ⟨N, hN⟩ : ∃ N, ns.length = N := ⟨_, rfl⟩
  obtain ⟨nv, hnv⟩ : ∃ nv, Value.slice (some ⟨nb, no, none⟩) ns.length nc = nv := ⟨_, rfl⟩
  rw [hN] at hi n0 hnc
  have HNV := Lib.hid hnv
  rw [hnv] at hs hf hfs
  clear e0 e1 e2 hnat hncell hnb hnv hnd hN
  simp only at hl ⊢
  obtain ⟨ao, m, cap, rfl⟩ : ∃ ao n cap, lv = .slice ao n cap := by obtain ⟨a, c, h, _⟩ := hks; exact ⟨_, _, _, h⟩
  have HKS := Lib.hid hks
  clear hks
  have HF := Lib.hid (And.intro hf (And.intro hfs hr))
  clear hf hfs hr
  have HL := Lib.hid hl
  have HD := Lib.hid hd
  have HWP := Lib.hid hp
  have HW := Lib.hid hw
  have H0 : Hid (PgSt p nv bl acc w ∧ Kept [] W w) := ⟨hs, hw⟩
  clear hl hs hw hd hp
  rw [HNV.out]
  clear HNV
  go_enter Tryz.func23, Tryz.ntmps23
  obtain ⟨w1, hw1⟩ : ∃ w1, w.alloc (.cells #[.int .i64 7, .string (strL tx), .slice ao m cap] 41) = w1 := ⟨_, rfl⟩
  have H1 : Hid (PgSt p nv bl (acc) w1 ∧ Kept [] W w1 ∧ PF p w w1 ∧ w1.heap[w.heap.size]? = some (.cells #[.int .i64 7, .string (strL tx), .slice ao m cap] 41)) := by
    rw [← hw1]
    exact ⟨H0.out.1.go (Kept.alloc _ _ _), H0.out.2.trans (Kept.alloc _ _ _), PF.of (Kept.alloc _ _ _), heap_alloc_last _ _⟩
  have hqp : Hid (w.heap.size ≠ p ∧ p < w.heap.size) := ⟨by have := H0.out.1.lt; omega, H0.out.1.lt⟩
  have q0_1 : w1.cell? ⟨w.heap.size, 0, none⟩ = some (.int .i64 7) := cell_of_row _ _ 0 _ _ _ H1.out.2.2.2
  have q1_1 : w1.cell? ⟨w.heap.size, 1, none⟩ = some (.string (strL tx)) := cell_of_row _ _ 1 _ _ _ H1.out.2.2.2
  have q2_1 : w1.cell? ⟨w.heap.size, 2, none⟩ = some (.slice ao m cap) := cell_of_row _ _ 2 _ _ _ H1.out.2.2.2
  have HP := Lib.hid (pcond_any W nv p bl d acc w1 HWP.out H1.out.2.1 H1.out.1 HD.out 7 tx (.slice ao m cap) x r f fs HKS.out HF.out.2.2 HF.out.1 HF.out.2.1 (by have := HL.out; simp only [List.length_append, List.length_cons, List.length_nil] at this ⊢; omega))
  go_wp2_with fail
  refine HP.out.mono ?_
  rintro e w2 ⟨rfl, h, hk⟩
  have H2 : Hid (PgSt p nv bl (acc ++ ([105, 102, 32] ++ (f bl ++ ([32] ++ joinT [32, 101, 108, 115, 101, 32] (fs.map fun f : Nat → List UInt8 => f bl))))) w2 ∧ Kept [] W w2 ∧ PF p w w2 ∧ w2.heap[w.heap.size]? = some (.cells #[.int .i64 7, .string (strL tx), .slice ao m cap] 41)) := by
    have z := (PF.refl _ _).trans hk
    exact ⟨h, PF.kept HW.out (H1.out.2.2.1.trans z) HWP.out, H1.out.2.2.1.trans z, z.heap H1.out.2.2.2 hqp.out.1 (by decide)⟩
  clear h hk HP H1 q0_1 q1_1 q2_1
  have q0_2 : w2.cell? ⟨w.heap.size, 0, none⟩ = some (.int .i64 7) := cell_of_row _ _ 0 _ _ _ H2.out.2.2.2
  have q1_2 : w2.cell? ⟨w.heap.size, 1, none⟩ = some (.string (strL tx)) := cell_of_row _ _ 1 _ _ _ H2.out.2.2.2
  have q2_2 : w2.cell? ⟨w.heap.size, 2, none⟩ = some (.slice ao m cap) := cell_of_row _ _ 2 _ _ _ H2.out.2.2.2
  go_wp2_with fail
  go_end0
  exact ⟨rfl, by simpa only [List.append_assoc, List.cons_append, List.nil_append, List.append_nil] using H2.out.1, H2.out.2.2.1⟩
set_option maxRecDepth 100000 in
set_option maxHeartbeats 4000000 in
theorem pnode_res0 (W : World) (nv : Value) (ns : List Nod) (hns : NdIs W nv ns) (d i : Nat) (tx : List UInt8) (x : Nat) (f : Nat → List UInt8) (hnd : ns[i]? = some ⟨8, tx, [x]⟩) (hf : PCt W nv d x f) : PCt W nv (d) i (fun bl => tx ++ ([32, 123, 32] ++ (f bl ++ ([58] ++ [32, 125])))) := by
  intro p bl acc w hp hw hs hd hl
  obtain ⟨hi, hnd⟩ := List.getElem?_eq_some_iff.1 hnd
  obtain ⟨na, nc, rfl, hnc, hn63, hncell⟩ := hns
  obtain ⟨nb, no, rfl, hnb, hnat⟩ := hncell (by omega)
  obtain ⟨e0, e1, lv, e2, hks⟩ := hnat i hi
  rw [hnd] at e0 e1 hks
  have n0 : w.cell? ⟨p, 0, none⟩ = some (.slice (some ⟨nb, no, none⟩) ns.length nc) := by
    obtain ⟨ad, bf, h1, _⟩ := hs.out
    exact cell_of_row _ _ 0 _ _ _ h1
  have f0 : w.cell? ⟨nb, no + i * 3, none⟩ = some (.int .i64 8) := (hw.cell (p := ⟨nb, no + i * 3, none⟩) hnb (by simp)).trans e0
  have f1 : w.cell? ⟨nb, no + i * 3 + 1, none⟩ = some (.string (strL tx)) := (hw.cell (p := ⟨nb, no + i * 3 + 1, none⟩) hnb (by simp)).trans e1
  have f2 := (hw.cell (p := ⟨nb, no + i * 3 + 2, none⟩) hnb (by simp)).trans e2
  obtain ⟨N, hN⟩ : ∃ N, ns.length = N := ⟨_, rfl⟩
  obtain ⟨nv, hnv⟩ : ∃ nv, Value.slice (some ⟨nb, no, none⟩) ns.length nc = nv := ⟨_, rfl⟩
  rw [hN] at hi n0 hnc
  have HNV := Lib.hid hnv
  rw [hnv] at hs hf
  clear e0 e1 e2 hnat hncell hnb hnv hnd hN
  simp only at hl ⊢
  obtain ⟨ao, m, cap, rfl⟩ : ∃ ao n cap, lv = .slice ao n cap := by obtain ⟨a, c, h, _⟩ := hks; exact ⟨_, _, _, h⟩
  have HKS := Lib.hid hks
  clear hks
  have HF := Lib.hid hf
  clear hf
  have HL := Lib.hid hl
  have HD := Lib.hid hd
  have HWP := Lib.hid hp
  have HW := Lib.hid hw
  have H0 : Hid (PgSt p nv bl acc w ∧ Kept [] W w) := ⟨hs, hw⟩
  clear hl hs hw hd hp
  rw [HNV.out]
  clear HNV
  go_enter Tryz.func23, Tryz.ntmps23
  obtain ⟨w1, hw1⟩ : ∃ w1, w.alloc (.cells #[.int .i64 8, .string (strL tx), .slice ao m cap] 41) = w1 := ⟨_, rfl⟩
  have H1 : Hid (PgSt p nv bl (acc) w1 ∧ Kept [] W w1 ∧ PF p w w1 ∧ w1.heap[w.heap.size]? = some (.cells #[.int .i64 8, .string (strL tx), .slice ao m cap] 41)) := by
    rw [← hw1]
    exact ⟨H0.out.1.go (Kept.alloc _ _ _), H0.out.2.trans (Kept.alloc _ _ _), PF.of (Kept.alloc _ _ _), heap_alloc_last _ _⟩
  have hqp : Hid (w.heap.size ≠ p ∧ p < w.heap.size) := ⟨by have := H0.out.1.lt; omega, H0.out.1.lt⟩
  have q0_1 : w1.cell? ⟨w.heap.size, 0, none⟩ = some (.int .i64 8) := cell_of_row _ _ 0 _ _ _ H1.out.2.2.2
  have q1_1 : w1.cell? ⟨w.heap.size, 1, none⟩ = some (.string (strL tx)) := cell_of_row _ _ 1 _ _ _ H1.out.2.2.2
  have q2_1 : w1.cell? ⟨w.heap.size, 2, none⟩ = some (.slice ao m cap) := cell_of_row _ _ 2 _ _ _ H1.out.2.2.2
  have HP := Lib.hid (pres_none W nv p bl d acc w1 HWP.out H1.out.2.1 H1.out.1 HD.out 8 tx (.slice ao m cap) x f HKS.out HF.out (by have := HL.out; simp only [List.length_append, List.length_cons, List.length_nil] at this ⊢; omega))
  go_wp2_with fail
  refine HP.out.mono ?_
  rintro e w2 ⟨rfl, h, hk⟩
  have H2 : Hid (PgSt p nv bl (acc ++ (tx ++ ([32, 123, 32] ++ (f bl ++ ([58] ++ [32, 125]))))) w2 ∧ Kept [] W w2 ∧ PF p w w2 ∧ w2.heap[w.heap.size]? = some (.cells #[.int .i64 8, .string (strL tx), .slice ao m cap] 41)) := by
    have z := (PF.refl _ _).trans hk
    exact ⟨h, PF.kept HW.out (H1.out.2.2.1.trans z) HWP.out, H1.out.2.2.1.trans z, z.heap H1.out.2.2.2 hqp.out.1 (by decide)⟩
  clear h hk HP H1 q0_1 q1_1 q2_1
  have q0_2 : w2.cell? ⟨w.heap.size, 0, none⟩ = some (.int .i64 8) := cell_of_row _ _ 0 _ _ _ H2.out.2.2.2
  have q1_2 : w2.cell? ⟨w.heap.size, 1, none⟩ = some (.string (strL tx)) := cell_of_row _ _ 1 _ _ _ H2.out.2.2.2
  have q2_2 : w2.cell? ⟨w.heap.size, 2, none⟩ = some (.slice ao m cap) := cell_of_row _ _ 2 _ _ _ H2.out.2.2.2
  go_wp2_with fail
  go_end0
  exact ⟨rfl, by simpa only [List.append_assoc, List.cons_append, List.nil_append, List.append_nil] using H2.out.1, H2.out.2.2.1⟩
set_option maxRecDepth 100000 in
set_option maxHeartbeats 4000000 in
theorem pnode_res1 (W : World) (nv : Value) (ns : List Nod) (hns : NdIs W nv ns) (d i : Nat) (tx : List UInt8) (x : Nat) (r : List Nat) (f : Nat → List UInt8) (fs : List (Nat → List UInt8)) (hnd : ns[i]? = some ⟨8, tx, x :: r⟩) (hr : r ≠ []) (hf : PCt W nv d x f) (hfs : PCs W nv d r fs) : PCt W nv (d) i (fun bl => tx ++ ([32, 123, 32] ++ (f bl ++ ([58] ++ ([32] ++ (joinT [44, 32] (fs.map fun f : Nat → List UInt8 => f bl) ++ [32, 125])))))) := by
  intro p bl acc w hp hw hs hd hl
  obtain ⟨hi, hnd⟩ := List.getElem?_eq_some_iff.1 hnd
  obtain ⟨na, nc, rfl, hnc, hn63, hncell⟩ := hns
  obtain ⟨nb, no, rfl, hnb, hnat⟩ := hncell (by omega)
  obtain ⟨e0, e1, lv, e2, hks⟩ := hnat i hi
  rw [hnd] at e0 e1 hks
  have n0 : w.cell? ⟨p, 0, none⟩ = some (.slice (some ⟨nb, no, none⟩) ns.length nc) := by
    obtain ⟨ad, bf, h1, _⟩ := hs.out
    exact cell_of_row _ _ 0 _ _ _ h1
  have f0 : w.cell? ⟨nb, no + i * 3, none⟩ = some (.int .i64 8) := (hw.cell (p := ⟨nb, no + i * 3, none⟩) hnb (by simp)).trans e0
  have f1 : w.cell? ⟨nb, no + i * 3 + 1, none⟩ = some (.string (strL tx)) := (hw.cell (p := ⟨nb, no + i * 3 + 1, none⟩) hnb (by simp)).trans e1
  have f2 := (hw.cell (p := ⟨nb, no + i * 3 + 2, none⟩) hnb (by simp)).trans e2
  obtain ⟨N, hN⟩ : ∃ N, ns.length = N := ⟨_, rfl⟩
  obtain ⟨nv, hnv⟩ : ∃ nv, Value.slice (some ⟨nb, no, none⟩) ns.length nc = nv := ⟨_, rfl⟩
  rw [hN] at hi n0 hnc
  have HNV := Lib.hid hnv
  rw [hnv] at hs hf hfs
  clear e0 e1 e2 hnat hncell hnb hnv hnd hN
  simp only at hl ⊢
  obtain ⟨ao, m, cap, rfl⟩ : ∃ ao n cap, lv = .slice ao n cap := by obtain ⟨a, c, h, _⟩ := hks; exact ⟨_, _, _, h⟩
  have HKS := Lib.hid hks
  clear hks
  have HF := Lib.hid (And.intro hf (And.intro hfs hr))
  clear hf hfs hr
  have HL := Lib.hid hl
  have HD := Lib.hid hd
  have HWP := Lib.hid hp
  have HW := Lib.hid hw
  have H0 : Hid (PgSt p nv bl acc w ∧ Kept [] W w) := ⟨hs, hw⟩
  clear hl hs hw hd hp
  rw [HNV.out]
  clear HNV
  go_enter Tryz.func23, Tryz.ntmps23
  obtain ⟨w1, hw1⟩ : ∃ w1, w.alloc (.cells #[.int .i64 8, .string (strL tx), .slice ao m cap] 41) = w1 := ⟨_, rfl⟩
  have H1 : Hid (PgSt p nv bl (acc) w1 ∧ Kept [] W w1 ∧ PF p w w1 ∧ w1.heap[w.heap.size]? = some (.cells #[.int .i64 8, .string (strL tx), .slice ao m cap] 41)) := by
    rw [← hw1]
    exact ⟨H0.out.1.go (Kept.alloc _ _ _), H0.out.2.trans (Kept.alloc _ _ _), PF.of (Kept.alloc _ _ _), heap_alloc_last _ _⟩
  have hqp : Hid (w.heap.size ≠ p ∧ p < w.heap.size) := ⟨by have := H0.out.1.lt; omega, H0.out.1.lt⟩
  have q0_1 : w1.cell? ⟨w.heap.size, 0, none⟩ = some (.int .i64 8) := cell_of_row _ _ 0 _ _ _ H1.out.2.2.2
  have q1_1 : w1.cell? ⟨w.heap.size, 1, none⟩ = some (.string (strL tx)) := cell_of_row _ _ 1 _ _ _ H1.out.2.2.2
  have q2_1 : w1.cell? ⟨w.heap.size, 2, none⟩ = some (.slice ao m cap) := cell_of_row _ _ 2 _ _ _ H1.out.2.2.2
  have HP := Lib.hid (pres_more W nv p bl d acc w1 HWP.out H1.out.2.1 H1.out.1 HD.out 8 tx (.slice ao m cap) x r f fs HKS.out HF.out.2.2 HF.out.1 HF.out.2.1 (by have := HL.out; simp only [List.length_append, List.length_cons, List.length_nil] at this ⊢; omega))
  go_wp2_with fail
  refine HP.out.mono ?_
  rintro e w2 ⟨rfl, h, hk⟩
  have H2 : Hid (PgSt p nv bl (acc ++ (tx ++ ([32, 123, 32] ++ (f bl ++ ([58] ++ ([32] ++ (joinT [44, 32] (fs.map fun f : Nat → List UInt8 => f bl) ++ [32, 125]))))))) w2 ∧ Kept [] W w2 ∧ PF p w w2 ∧ w2.heap[w.heap.size]? = some (.cells #[.int .i64 8, .string (strL tx), .slice ao m cap] 41)) := by
    have z := (PF.refl _ _).trans hk
    exact ⟨h, PF.kept HW.out (H1.out.2.2.1.trans z) HWP.out, H1.out.2.2.1.trans z, z.heap H1.out.2.2.2 hqp.out.1 (by decide)⟩
  clear h hk HP H1 q0_1 q1_1 q2_1
  have q0_2 : w2.cell? ⟨w.heap.size, 0, none⟩ = some (.int .i64 8) := cell_of_row _ _ 0 _ _ _ H2.out.2.2.2
  have q1_2 : w2.cell? ⟨w.heap.size, 1, none⟩ = some (.string (strL tx)) := cell_of_row _ _ 1 _ _ _ H2.out.2.2.2
  have q2_2 : w2.cell? ⟨w.heap.size, 2, none⟩ = some (.slice ao m cap) := cell_of_row _ _ 2 _ _ _ H2.out.2.2.2
  go_wp2_with fail
  go_end0
  exact ⟨rfl, by simpa only [List.append_assoc, List.cons_append, List.nil_append, List.append_nil] using H2.out.1, H2.out.2.2.1⟩
set_option maxRecDepth 100000 in
set_option maxHeartbeats 4000000 in
theorem pnode_attr (W : World) (nv : Value) (ns : List Nod) (hns : NdIs W nv ns) (d i : Nat) (tx : List UInt8) (x : Nat) (f : Nat → List UInt8) (hnd : ns[i]? = some ⟨9, tx, [x]⟩) (hf : PCt W nv d x f) : PCt W nv (d) i (fun bl => tx ++ ([32, 61, 62, 32] ++ f bl)) := by
  intro p bl acc w hp hw hs hd hl
  obtain ⟨hi, hnd⟩ := List.getElem?_eq_some_iff.1 hnd
  obtain ⟨na, nc, rfl, hnc, hn63, hncell⟩ := hns
  obtain ⟨nb, no, rfl, hnb, hnat⟩ := hncell (by omega)
  obtain ⟨e0, e1, lv, e2, hks⟩ := hnat i hi
  rw [hnd] at e0 e1 hks
  have n0 : w.cell? ⟨p, 0, none⟩ = some (.slice (some ⟨nb, no, none⟩) ns.length nc) := by
    obtain ⟨ad, bf, h1, _⟩ := hs.out
    exact cell_of_row _ _ 0 _ _ _ h1
  have f0 : w.cell? ⟨nb, no + i * 3, none⟩ = some (.int .i64 9) := (hw.cell (p := ⟨nb, no + i * 3, none⟩) hnb (by simp)).trans e0
  have f1 : w.cell? ⟨nb, no + i * 3 + 1, none⟩ = some (.string (strL tx)) := (hw.cell (p := ⟨nb, no + i * 3 + 1, none⟩) hnb (by simp)).trans e1
  have f2 := (hw.cell (p := ⟨nb, no + i * 3 + 2, none⟩) hnb (by simp)).trans e2
  obtain ⟨N, hN⟩ : ∃ N, ns.length = N := ⟨_, rfl⟩
  obtain ⟨nv, hnv⟩ : ∃ nv, Value.slice (some ⟨nb, no, none⟩) ns.length nc = nv := ⟨_, rfl⟩
  rw [hN] at hi n0 hnc
  have HNV := Lib.hid hnv
  rw [hnv] at hs hf
  clear e0 e1 e2 hnat hncell hnb hnv hnd hN
  simp only at hl ⊢
  obtain ⟨ao, cap, rfl, hcap, hc63, hcell⟩ := hks
  obtain ⟨B, O, rfl, hb2, hc2⟩ := hcell (by simp)
  have HB2 := Lib.hid hb2
  have HE0 : Hid (W.cell? ⟨B, O, none⟩ = some (.int .i64 (x : Int))) := hc2 0 (by simp)
  rw [show [x].length = 1 from rfl] at f2
  have hcap2 : 1 ≤ cap := by simpa using hcap
  have HF := Lib.hid hf
  clear hcell hc2 hb2 hf hcap
  have HL := Lib.hid hl
  have HD := Lib.hid hd
  have HWP := Lib.hid hp
  have HW := Lib.hid hw
  have H0 : Hid (PgSt p nv bl acc w ∧ Kept [] W w) := ⟨hs, hw⟩
  clear hl hs hw hd hp
  rw [HNV.out]
  clear HNV
  go_enter Tryz.func23, Tryz.ntmps23
  obtain ⟨w1, hw1⟩ : ∃ w1, w.alloc (.cells #[.int .i64 9, .string (strL tx), .slice (some ⟨B, O, none⟩) 1 cap] 41) = w1 := ⟨_, rfl⟩
  have H1 : Hid (PgSt p nv bl (acc) w1 ∧ Kept [] W w1 ∧ PF p w w1 ∧ w1.heap[w.heap.size]? = some (.cells #[.int .i64 9, .string (strL tx), .slice (some ⟨B, O, none⟩) 1 cap] 41)) := by
    rw [← hw1]
    exact ⟨H0.out.1.go (Kept.alloc _ _ _), H0.out.2.trans (Kept.alloc _ _ _), PF.of (Kept.alloc _ _ _), heap_alloc_last _ _⟩
  have hqp : Hid (w.heap.size ≠ p ∧ p < w.heap.size) := ⟨by have := H0.out.1.lt; omega, H0.out.1.lt⟩
  have q0_1 : w1.cell? ⟨w.heap.size, 0, none⟩ = some (.int .i64 9) := cell_of_row _ _ 0 _ _ _ H1.out.2.2.2
  have q1_1 : w1.cell? ⟨w.heap.size, 1, none⟩ = some (.string (strL tx)) := cell_of_row _ _ 1 _ _ _ H1.out.2.2.2
  have q2_1 : w1.cell? ⟨w.heap.size, 2, none⟩ = some (.slice (some ⟨B, O, none⟩) 1 cap) := cell_of_row _ _ 2 _ _ _ H1.out.2.2.2
  obtain ⟨v1, hv1⟩ : ∃ v, w1.alloc (.cells #[.string (strL tx), .string ⟨#[32, 61, 62, 32]⟩] 9) = v := ⟨_, rfl⟩
  have K1 : Hid (Kept [] w1 v1 ∧ v1.heap[w1.heap.size]? = some (.cells #[.string (strL tx), .string (strL [32, 61, 62, 32])] 9)) := by
    rw [← hv1]
    exact ⟨Kept.alloc _ _ _, heap_alloc_last _ _⟩
  have HP := Lib.hid (pput_two p nv bl (acc) tx [32, 61, 62, 32] w1.heap.size v1 (H1.out.1.go K1.out.1) K1.out.2 (by have := HL.out; simp only [List.length_append, List.length_cons, List.length_nil] at this ⊢; omega))
  go_wp2_with fail
  refine HP.out.mono ?_
  rintro e w2 ⟨rfl, h, hk⟩
  have H2 : Hid (PgSt p nv bl (acc ++ (tx ++ [32, 61, 62, 32])) w2 ∧ Kept [] W w2 ∧ PF p w w2 ∧ w2.heap[w.heap.size]? = some (.cells #[.int .i64 9, .string (strL tx), .slice (some ⟨B, O, none⟩) 1 cap] 41)) := by
    have z := (PF.of K1.out.1).trans hk
    exact ⟨h, PF.kept HW.out (H1.out.2.2.1.trans z) HWP.out, H1.out.2.2.1.trans z, z.heap H1.out.2.2.2 hqp.out.1 (by decide)⟩
  clear h hk HP H1 q0_1 q1_1 q2_1 hv1 K1
  have q0_2 : w2.cell? ⟨w.heap.size, 0, none⟩ = some (.int .i64 9) := cell_of_row _ _ 0 _ _ _ H2.out.2.2.2
  have q1_2 : w2.cell? ⟨w.heap.size, 1, none⟩ = some (.string (strL tx)) := cell_of_row _ _ 1 _ _ _ H2.out.2.2.2
  have q2_2 : w2.cell? ⟨w.heap.size, 2, none⟩ = some (.slice (some ⟨B, O, none⟩) 1 cap) := cell_of_row _ _ 2 _ _ _ H2.out.2.2.2
  have qx_2 : w2.cell? ⟨B, O, none⟩ = some (.int .i64 (x : Int)) := (H2.out.2.1.cell (p := ⟨B, O, none⟩) HB2.out (by simp)).trans HE0.out
  have HP := Lib.hid (HF.out p bl (acc ++ (tx ++ [32, 61, 62, 32])) w2 HWP.out H2.out.2.1 H2.out.1 HD.out (by have := HL.out; simp only [List.length_append, List.length_cons, List.length_nil] at this ⊢; omega))
  go_wp2_with fail
  refine HP.out.mono ?_
  rintro e w3 ⟨rfl, h, hk⟩
  have H3 : Hid (PgSt p nv bl (acc ++ (tx ++ [32, 61, 62, 32]) ++ f bl) w3 ∧ Kept [] W w3 ∧ PF p w w3 ∧ w3.heap[w.heap.size]? = some (.cells #[.int .i64 9, .string (strL tx), .slice (some ⟨B, O, none⟩) 1 cap] 41)) := by
    have z := (PF.refl _ _).trans hk
    exact ⟨h, PF.kept HW.out (H2.out.2.2.1.trans z) HWP.out, H2.out.2.2.1.trans z, z.heap H2.out.2.2.2 hqp.out.1 (by decide)⟩
  clear h hk HP H2 q0_2 q1_2 q2_2 qx_2
  have q0_3 : w3.cell? ⟨w.heap.size, 0, none⟩ = some (.int .i64 9) := cell_of_row _ _ 0 _ _ _ H3.out.2.2.2
  have q1_3 : w3.cell? ⟨w.heap.size, 1, none⟩ = some (.string (strL tx)) := cell_of_row _ _ 1 _ _ _ H3.out.2.2.2
  have q2_3 : w3.cell? ⟨w.heap.size, 2, none⟩ = some (.slice (some ⟨B, O, none⟩) 1 cap) := cell_of_row _ _ 2 _ _ _ H3.out.2.2.2
  go_wp2_with fail
  go_end0
  exact ⟨rfl, by simpa only [List.append_assoc, List.cons_append, List.nil_append, List.append_nil] using H3.out.1, H3.out.2.2.1⟩
set_option maxRecDepth 100000 in
set_option maxHeartbeats 4000000 in
theorem pnode_ref (W : World) (nv : Value) (ns : List Nod) (hns : NdIs W nv ns) (d i : Nat) (tx : List UInt8) (x : Nat) (f : Nat → List UInt8) (hnd : ns[i]? = some ⟨11, tx, [x]⟩) (hf : PCt W nv d x f) : PCt W nv (d) i (fun bl => tx ++ ([91] ++ (f bl ++ [93]))) := by
  intro p bl acc w hp hw hs hd hl
  obtain ⟨hi, hnd⟩ := List.getElem?_eq_some_iff.1 hnd
  obtain ⟨na, nc, rfl, hnc, hn63, hncell⟩ := hns
  obtain ⟨nb, no, rfl, hnb, hnat⟩ := hncell (by omega)
  obtain ⟨e0, e1, lv, e2, hks⟩ := hnat i hi
  rw [hnd] at e0 e1 hks
  have n0 : w.cell? ⟨p, 0, none⟩ = some (.slice (some ⟨nb, no, none⟩) ns.length nc) := by
    obtain ⟨ad, bf, h1, _⟩ := hs.out
    exact cell_of_row _ _ 0 _ _ _ h1
  have f0 : w.cell? ⟨nb, no + i * 3, none⟩ = some (.int .i64 11) := (hw.cell (p := ⟨nb, no + i * 3, none⟩) hnb (by simp)).trans e0
  have f1 : w.cell? ⟨nb, no + i * 3 + 1, none⟩ = some (.string (strL tx)) := (hw.cell (p := ⟨nb, no + i * 3 + 1, none⟩) hnb (by simp)).trans e1
  have f2 := (hw.cell (p := ⟨nb, no + i * 3 + 2, none⟩) hnb (by simp)).trans e2
  obtain ⟨N, hN⟩ : ∃ N, ns.length = N := ⟨_, rfl⟩
  obtain ⟨nv, hnv⟩ : ∃ nv, Value.slice (some ⟨nb, no, none⟩) ns.length nc = nv := ⟨_, rfl⟩
  rw [hN] at hi n0 hnc
  have HNV := Lib.hid hnv
  rw [hnv] at hs hf
  clear e0 e1 e2 hnat hncell hnb hnv hnd hN
  simp only at hl ⊢
  obtain ⟨ao, cap, rfl, hcap, hc63, hcell⟩ := hks
  obtain ⟨B, O, rfl, hb2, hc2⟩ := hcell (by simp)
  have HB2 := Lib.hid hb2
  have HE0 : Hid (W.cell? ⟨B, O, none⟩ = some (.int .i64 (x : Int))) := hc2 0 (by simp)
  rw [show [x].length = 1 from rfl] at f2
  have hcap2 : 1 ≤ cap := by simpa using hcap
  have HF := Lib.hid hf
  clear hcell hc2 hb2 hf hcap
  have HL := Lib.hid hl
  have HD := Lib.hid hd
  have HWP := Lib.hid hp
  have HW := Lib.hid hw
  have H0 : Hid (PgSt p nv bl acc w ∧ Kept [] W w) := ⟨hs, hw⟩
  clear hl hs hw hd hp
  rw [HNV.out]
  clear HNV
  go_enter Tryz.func23, Tryz.ntmps23
  obtain ⟨w1, hw1⟩ : ∃ w1, w.alloc (.cells #[.int .i64 11, .string (strL tx), .slice (some ⟨B, O, none⟩) 1 cap] 41) = w1 := ⟨_, rfl⟩
  have H1 : Hid (PgSt p nv bl (acc) w1 ∧ Kept [] W w1 ∧ PF p w w1 ∧ w1.heap[w.heap.size]? = some (.cells #[.int .i64 11, .string (strL tx), .slice (some ⟨B, O, none⟩) 1 cap] 41)) := by
    rw [← hw1]
    exact ⟨H0.out.1.go (Kept.alloc _ _ _), H0.out.2.trans (Kept.alloc _ _ _), PF.of (Kept.alloc _ _ _), heap_alloc_last _ _⟩
  have hqp : Hid (w.heap.size ≠ p ∧ p < w.heap.size) := ⟨by have := H0.out.1.lt; omega, H0.out.1.lt⟩
  have q0_1 : w1.cell? ⟨w.heap.size, 0, none⟩ = some (.int .i64 11) := cell_of_row _ _ 0 _ _ _ H1.out.2.2.2
  have q1_1 : w1.cell? ⟨w.heap.size, 1, none⟩ = some (.string (strL tx)) := cell_of_row _ _ 1 _ _ _ H1.out.2.2.2
  have q2_1 : w1.cell? ⟨w.heap.size, 2, none⟩ = some (.slice (some ⟨B, O, none⟩) 1 cap) := cell_of_row _ _ 2 _ _ _ H1.out.2.2.2
  obtain ⟨v1, hv1⟩ : ∃ v, w1.alloc (.cells #[.string (strL tx), .string ⟨#[91]⟩] 9) = v := ⟨_, rfl⟩
  have K1 : Hid (Kept [] w1 v1 ∧ v1.heap[w1.heap.size]? = some (.cells #[.string (strL tx), .string (strL [91])] 9)) := by
    rw [← hv1]
    exact ⟨Kept.alloc _ _ _, heap_alloc_last _ _⟩
  have HP := Lib.hid (pput_two p nv bl (acc) tx [91] w1.heap.size v1 (H1.out.1.go K1.out.1) K1.out.2 (by have := HL.out; simp only [List.length_append, List.length_cons, List.length_nil] at this ⊢; omega))
  go_wp2_with fail
  refine HP.out.mono ?_
  rintro e w2 ⟨rfl, h, hk⟩
  have H2 : Hid (PgSt p nv bl (acc ++ (tx ++ [91])) w2 ∧ Kept [] W w2 ∧ PF p w w2 ∧ w2.heap[w.heap.size]? = some (.cells #[.int .i64 11, .string (strL tx), .slice (some ⟨B, O, none⟩) 1 cap] 41)) := by
    have z := (PF.of K1.out.1).trans hk
    exact ⟨h, PF.kept HW.out (H1.out.2.2.1.trans z) HWP.out, H1.out.2.2.1.trans z, z.heap H1.out.2.2.2 hqp.out.1 (by decide)⟩
  clear h hk HP H1 q0_1 q1_1 q2_1 hv1 K1
  have q0_2 : w2.cell? ⟨w.heap.size, 0, none⟩ = some (.int .i64 11) := cell_of_row _ _ 0 _ _ _ H2.out.2.2.2
  have q1_2 : w2.cell? ⟨w.heap.size, 1, none⟩ = some (.string (strL tx)) := cell_of_row _ _ 1 _ _ _ H2.out.2.2.2
  have q2_2 : w2.cell? ⟨w.heap.size, 2, none⟩ = some (.slice (some ⟨B, O, none⟩) 1 cap) := cell_of_row _ _ 2 _ _ _ H2.out.2.2.2
  have qx_2 : w2.cell? ⟨B, O, none⟩ = some (.int .i64 (x : Int)) := (H2.out.2.1.cell (p := ⟨B, O, none⟩) HB2.out (by simp)).trans HE0.out
  have HP := Lib.hid (HF.out p bl (acc ++ (tx ++ [91])) w2 HWP.out H2.out.2.1 H2.out.1 HD.out (by have := HL.out; simp only [List.length_append, List.length_cons, List.length_nil] at this ⊢; omega))
  go_wp2_with fail
  refine HP.out.mono ?_
  rintro e w3 ⟨rfl, h, hk⟩
  have H3 : Hid (PgSt p nv bl (acc ++ (tx ++ [91]) ++ f bl) w3 ∧ Kept [] W w3 ∧ PF p w w3 ∧ w3.heap[w.heap.size]? = some (.cells #[.int .i64 11, .string (strL tx), .slice (some ⟨B, O, none⟩) 1 cap] 41)) := by
    have z := (PF.refl _ _).trans hk
    exact ⟨h, PF.kept HW.out (H2.out.2.2.1.trans z) HWP.out, H2.out.2.2.1.trans z, z.heap H2.out.2.2.2 hqp.out.1 (by decide)⟩
  clear h hk HP H2 q0_2 q1_2 q2_2 qx_2
  have q0_3 : w3.cell? ⟨w.heap.size, 0, none⟩ = some (.int .i64 11) := cell_of_row _ _ 0 _ _ _ H3.out.2.2.2
  have q1_3 : w3.cell? ⟨w.heap.size, 1, none⟩ = some (.string (strL tx)) := cell_of_row _ _ 1 _ _ _ H3.out.2.2.2
  have q2_3 : w3.cell? ⟨w.heap.size, 2, none⟩ = some (.slice (some ⟨B, O, none⟩) 1 cap) := cell_of_row _ _ 2 _ _ _ H3.out.2.2.2
  obtain ⟨v3, hv3⟩ : ∃ v, w3.alloc (.cells #[.string ⟨#[93]⟩] 9) = v := ⟨_, rfl⟩
  have K3 : Hid (Kept [] w3 v3 ∧ v3.heap[w3.heap.size]? = some (.cells #[.string (strL [93])] 9)) := by
    rw [← hv3]
    exact ⟨Kept.alloc _ _ _, heap_alloc_last _ _⟩
  have HP := Lib.hid (pput_one p nv bl (acc ++ (tx ++ [91]) ++ f bl) [93] w3.heap.size v3 (H3.out.1.go K3.out.1) K3.out.2 (by have := HL.out; simp only [List.length_append, List.length_cons, List.length_nil] at this ⊢; omega))
  go_wp2_with fail
  refine HP.out.mono ?_
  rintro e w4 ⟨rfl, h, hk⟩
  have H4 : Hid (PgSt p nv bl (acc ++ (tx ++ [91]) ++ f bl ++ [93]) w4 ∧ Kept [] W w4 ∧ PF p w w4 ∧ w4.heap[w.heap.size]? = some (.cells #[.int .i64 11, .string (strL tx), .slice (some ⟨B, O, none⟩) 1 cap] 41)) := by
    have z := (PF.of K3.out.1).trans hk
    exact ⟨h, PF.kept HW.out (H3.out.2.2.1.trans z) HWP.out, H3.out.2.2.1.trans z, z.heap H3.out.2.2.2 hqp.out.1 (by decide)⟩
  clear h hk HP H3 q0_3 q1_3 q2_3 hv3 K3
  have q0_4 : w4.cell? ⟨w.heap.size, 0, none⟩ = some (.int .i64 11) := cell_of_row _ _ 0 _ _ _ H4.out.2.2.2
  have q1_4 : w4.cell? ⟨w.heap.size, 1, none⟩ = some (.string (strL tx)) := cell_of_row _ _ 1 _ _ _ H4.out.2.2.2
  have q2_4 : w4.cell? ⟨w.heap.size, 2, none⟩ = some (.slice (some ⟨B, O, none⟩) 1 cap) := cell_of_row _ _ 2 _ _ _ H4.out.2.2.2
  go_wp2_with fail
  go_end0
  exact ⟨rfl, by simpa only [List.append_assoc, List.cons_append, List.nil_append, List.append_nil] using H4.out.1, H4.out.2.2.1⟩
set_option maxRecDepth 100000 in
set_option maxHeartbeats 4000000 in
theorem pnode_not (W : World) (nv : Value) (ns : List Nod) (hns : NdIs W nv ns) (d i : Nat) (tx : List UInt8) (x : Nat) (f : Nat → List UInt8) (hnd : ns[i]? = some ⟨20, tx, [x]⟩) (hf : PCt W nv d x f) : PCt W nv (d) i (fun bl => [33] ++ f bl) := by
  intro p bl acc w hp hw hs hd hl
  obtain ⟨hi, hnd⟩ := List.getElem?_eq_some_iff.1 hnd
  obtain ⟨na, nc, rfl, hnc, hn63, hncell⟩ := hns
  obtain ⟨nb, no, rfl, hnb, hnat⟩ := hncell (by omega)
  obtain ⟨e0, e1, lv, e2, hks⟩ := hnat i hi
  rw [hnd] at e0 e1 hks
  have n0 : w.cell? ⟨p, 0, none⟩ = some (.slice (some ⟨nb, no, none⟩) ns.length nc) := by
    obtain ⟨ad, bf, h1, _⟩ := hs.out
    exact cell_of_row _ _ 0 _ _ _ h1
  have f0 : w.cell? ⟨nb, no + i * 3, none⟩ = some (.int .i64 20) := (hw.cell (p := ⟨nb, no + i * 3, none⟩) hnb (by simp)).trans e0
  have f1 : w.cell? ⟨nb, no + i * 3 + 1, none⟩ = some (.string (strL tx)) := (hw.cell (p := ⟨nb, no + i * 3 + 1, none⟩) hnb (by simp)).trans e1
  have f2 := (hw.cell (p := ⟨nb, no + i * 3 + 2, none⟩) hnb (by simp)).trans e2
  obtain ⟨N, hN⟩ : ∃ N, ns.length = N := ⟨_, rfl⟩
  obtain ⟨nv, hnv⟩ : ∃ nv, Value.slice (some ⟨nb, no, none⟩) ns.length nc = nv := ⟨_, rfl⟩
  rw [hN] at hi n0 hnc
  have HNV := Lib.hid hnv
  rw [hnv] at hs hf
  clear e0 e1 e2 hnat hncell hnb hnv hnd hN
  simp only at hl ⊢
  obtain ⟨ao, cap, rfl, hcap, hc63, hcell⟩ := hks
  obtain ⟨B, O, rfl, hb2, hc2⟩ := hcell (by simp)
  have HB2 := Lib.hid hb2
  have HE0 : Hid (W.cell? ⟨B, O, none⟩ = some (.int .i64 (x : Int))) := hc2 0 (by simp)
  rw [show [x].length = 1 from rfl] at f2
  have hcap2 : 1 ≤ cap := by simpa using hcap
  have HF := Lib.hid hf
  clear hcell hc2 hb2 hf hcap
  have HL := Lib.hid hl
  have HD := Lib.hid hd
  have HWP := Lib.hid hp
  have HW := Lib.hid hw
  have H0 : Hid (PgSt p nv bl acc w ∧ Kept [] W w) := ⟨hs, hw⟩
  clear hl hs hw hd hp
  rw [HNV.out]
  clear HNV
  go_enter Tryz.func23, Tryz.ntmps23
  obtain ⟨w1, hw1⟩ : ∃ w1, w.alloc (.cells #[.int .i64 20, .string (strL tx), .slice (some ⟨B, O, none⟩) 1 cap] 41) = w1 := ⟨_, rfl⟩
  have H1 : Hid (PgSt p nv bl (acc) w1 ∧ Kept [] W w1 ∧ PF p w w1 ∧ w1.heap[w.heap.size]? = some (.cells #[.int .i64 20, .string (strL tx), .slice (some ⟨B, O, none⟩) 1 cap] 41)) := by
    rw [← hw1]
    exact ⟨H0.out.1.go (Kept.alloc _ _ _), H0.out.2.trans (Kept.alloc _ _ _), PF.of (Kept.alloc _ _ _), heap_alloc_last _ _⟩
  have hqp : Hid (w.heap.size ≠ p ∧ p < w.heap.size) := ⟨by have := H0.out.1.lt; omega, H0.out.1.lt⟩
  have q0_1 : w1.cell? ⟨w.heap.size, 0, none⟩ = some (.int .i64 20) := cell_of_row _ _ 0 _ _ _ H1.out.2.2.2
  have q1_1 : w1.cell? ⟨w.heap.size, 1, none⟩ = some (.string (strL tx)) := cell_of_row _ _ 1 _ _ _ H1.out.2.2.2
  have q2_1 : w1.cell? ⟨w.heap.size, 2, none⟩ = some (.slice (some ⟨B, O, none⟩) 1 cap) := cell_of_row _ _ 2 _ _ _ H1.out.2.2.2
  obtain ⟨v1, hv1⟩ : ∃ v, w1.alloc (.cells #[.string ⟨#[33]⟩] 9) = v := ⟨_, rfl⟩
  have K1 : Hid (Kept [] w1 v1 ∧ v1.heap[w1.heap.size]? = some (.cells #[.string (strL [33])] 9)) := by
    rw [← hv1]
    exact ⟨Kept.alloc _ _ _, heap_alloc_last _ _⟩
  have HP := Lib.hid (pput_one p nv bl (acc) [33] w1.heap.size v1 (H1.out.1.go K1.out.1) K1.out.2 (by have := HL.out; simp only [List.length_append, List.length_cons, List.length_nil] at this ⊢; omega))
  go_wp2_with fail
  refine HP.out.mono ?_
  rintro e w2 ⟨rfl, h, hk⟩
  have H2 : Hid (PgSt p nv bl (acc ++ [33]) w2 ∧ Kept [] W w2 ∧ PF p w w2 ∧ w2.heap[w.heap.size]? = some (.cells #[.int .i64 20, .string (strL tx), .slice (some ⟨B, O, none⟩) 1 cap] 41)) := by
    have z := (PF.of K1.out.1).trans hk
    exact ⟨h, PF.kept HW.out (H1.out.2.2.1.trans z) HWP.out, H1.out.2.2.1.trans z, z.heap H1.out.2.2.2 hqp.out.1 (by decide)⟩
  clear h hk HP H1 q0_1 q1_1 q2_1 hv1 K1
  have q0_2 : w2.cell? ⟨w.heap.size, 0, none⟩ = some (.int .i64 20) := cell_of_row _ _ 0 _ _ _ H2.out.2.2.2
  have q1_2 : w2.cell? ⟨w.heap.size, 1, none⟩ = some (.string (strL tx)) := cell_of_row _ _ 1 _ _ _ H2.out.2.2.2
  have q2_2 : w2.cell? ⟨w.heap.size, 2, none⟩ = some (.slice (some ⟨B, O, none⟩) 1 cap) := cell_of_row _ _ 2 _ _ _ H2.out.2.2.2
  have qx_2 : w2.cell? ⟨B, O, none⟩ = some (.int .i64 (x : Int)) := (H2.out.2.1.cell (p := ⟨B, O, none⟩) HB2.out (by simp)).trans HE0.out
  have HP := Lib.hid (HF.out p bl (acc ++ [33]) w2 HWP.out H2.out.2.1 H2.out.1 HD.out (by have := HL.out; simp only [List.length_append, List.length_cons, List.length_nil] at this ⊢; omega))
  go_wp2_with fail
  refine HP.out.mono ?_
  rintro e w3 ⟨rfl, h, hk⟩
  have H3 : Hid (PgSt p nv bl (acc ++ [33] ++ f bl) w3 ∧ Kept [] W w3 ∧ PF p w w3 ∧ w3.heap[w.heap.size]? = some (.cells #[.int .i64 20, .string (strL tx), .slice (some ⟨B, O, none⟩) 1 cap] 41)) := by
    have z := (PF.refl _ _).trans hk
    exact ⟨h, PF.kept HW.out (H2.out.2.2.1.trans z) HWP.out, H2.out.2.2.1.trans z, z.heap H2.out.2.2.2 hqp.out.1 (by decide)⟩
  clear h hk HP H2 q0_2 q1_2 q2_2 qx_2
  have q0_3 : w3.cell? ⟨w.heap.size, 0, none⟩ = some (.int .i64 20) := cell_of_row _ _ 0 _ _ _ H3.out.2.2.2
  have q1_3 : w3.cell? ⟨w.heap.size, 1, none⟩ = some (.string (strL tx)) := cell_of_row _ _ 1 _ _ _ H3.out.2.2.2
  have q2_3 : w3.cell? ⟨w.heap.size, 2, none⟩ = some (.slice (some ⟨B, O, none⟩) 1 cap) := cell_of_row _ _ 2 _ _ _ H3.out.2.2.2
  go_wp2_with fail
  go_end0
  exact ⟨rfl, by simpa only [List.append_assoc, List.cons_append, List.nil_append, List.append_nil] using H3.out.1, H3.out.2.2.1⟩
set_option maxRecDepth 100000 in
set_option maxHeartbeats 4000000 in
theorem pnode_chain (W : World) (nv : Value) (ns : List Nod) (hns : NdIs W nv ns) (d i : Nat) (tx : List UInt8) (ks : List Nat) (fs : List (Nat → List UInt8)) (hnd : ns[i]? = some ⟨10, tx, ks⟩) (hfs : PCs W nv d ks fs) : PCt W nv (d) i (fun bl => joinT [32] (fs.map fun f : Nat → List UInt8 => f bl) ++ []) := by
  intro p bl acc w hp hw hs hd hl
  obtain ⟨hi, hnd⟩ := List.getElem?_eq_some_iff.1 hnd
  obtain ⟨na, nc, rfl, hnc, hn63, hncell⟩ := hns
  obtain ⟨nb, no, rfl, hnb, hnat⟩ := hncell (by omega)
  obtain ⟨e0, e1, lv, e2, hks⟩ := hnat i hi
  rw [hnd] at e0 e1 hks
  have n0 : w.cell? ⟨p, 0, none⟩ = some (.slice (some ⟨nb, no, none⟩) ns.length nc) := by
    obtain ⟨ad, bf, h1, _⟩ := hs.out
    exact cell_of_row _ _ 0 _ _ _ h1
  have f0 : w.cell? ⟨nb, no + i * 3, none⟩ = some (.int .i64 10) := (hw.cell (p := ⟨nb, no + i * 3, none⟩) hnb (by simp)).trans e0
  have f1 : w.cell? ⟨nb, no + i * 3 + 1, none⟩ = some (.string (strL tx)) := (hw.cell (p := ⟨nb, no + i * 3 + 1, none⟩) hnb (by simp)).trans e1
  have f2 := (hw.cell (p := ⟨nb, no + i * 3 + 2, none⟩) hnb (by simp)).trans e2
  obtain ⟨N, hN⟩ : ∃ N, ns.length = N := ⟨_, rfl⟩
  obtain ⟨nv, hnv⟩ : ∃ nv, Value.slice (some ⟨nb, no, none⟩) ns.length nc = nv := ⟨_, rfl⟩
  rw [hN] at hi n0 hnc
  have HNV := Lib.hid hnv
  rw [hnv] at hs hfs
  clear e0 e1 e2 hnat hncell hnb hnv hnd hN
  simp only at hl ⊢
  obtain ⟨ao, m, cap, rfl⟩ : ∃ ao n cap, lv = .slice ao n cap := by obtain ⟨a, c, h, _⟩ := hks; exact ⟨_, _, _, h⟩
  have HKS := Lib.hid hks
  clear hks
  have HFS := Lib.hid hfs
  clear hfs
  have HL := Lib.hid hl
  have HD := Lib.hid hd
  have HWP := Lib.hid hp
  have HW := Lib.hid hw
  have H0 : Hid (PgSt p nv bl acc w ∧ Kept [] W w) := ⟨hs, hw⟩
  clear hl hs hw hd hp
  rw [HNV.out]
  clear HNV
  go_enter Tryz.func23, Tryz.ntmps23
  obtain ⟨w1, hw1⟩ : ∃ w1, w.alloc (.cells #[.int .i64 10, .string (strL tx), .slice ao m cap] 41) = w1 := ⟨_, rfl⟩
  have H1 : Hid (PgSt p nv bl (acc) w1 ∧ Kept [] W w1 ∧ PF p w w1 ∧ w1.heap[w.heap.size]? = some (.cells #[.int .i64 10, .string (strL tx), .slice ao m cap] 41)) := by
    rw [← hw1]
    exact ⟨H0.out.1.go (Kept.alloc _ _ _), H0.out.2.trans (Kept.alloc _ _ _), PF.of (Kept.alloc _ _ _), heap_alloc_last _ _⟩
  have hqp : Hid (w.heap.size ≠ p ∧ p < w.heap.size) := ⟨by have := H0.out.1.lt; omega, H0.out.1.lt⟩
  have q0_1 : w1.cell? ⟨w.heap.size, 0, none⟩ = some (.int .i64 10) := cell_of_row _ _ 0 _ _ _ H1.out.2.2.2
  have q1_1 : w1.cell? ⟨w.heap.size, 1, none⟩ = some (.string (strL tx)) := cell_of_row _ _ 1 _ _ _ H1.out.2.2.2
  have q2_1 : w1.cell? ⟨w.heap.size, 2, none⟩ = some (.slice ao m cap) := cell_of_row _ _ 2 _ _ _ H1.out.2.2.2
  have HP := Lib.hid (plist_any W nv d ks fs [32] _ HKS.out HFS.out p bl (acc) w1 HWP.out H1.out.2.1 H1.out.1 HD.out (by have := HL.out; simp only [List.length_append, List.length_nil] at this ⊢; omega))
  go_wp2_with fail
  refine HP.out.mono ?_
  rintro e w2 ⟨rfl, h, hk⟩
  have H2 : Hid (PgSt p nv bl (acc ++ joinT [32] (fs.map fun f : Nat → List UInt8 => f bl)) w2 ∧ Kept [] W w2 ∧ PF p w w2 ∧ w2.heap[w.heap.size]? = some (.cells #[.int .i64 10, .string (strL tx), .slice ao m cap] 41)) := by
    have z := (PF.refl _ _).trans hk
    exact ⟨h, PF.kept HW.out (H1.out.2.2.1.trans z) HWP.out, H1.out.2.2.1.trans z, z.heap H1.out.2.2.2 hqp.out.1 (by decide)⟩
  clear h hk HP H1 q0_1 q1_1 q2_1
  have q0_2 : w2.cell? ⟨w.heap.size, 0, none⟩ = some (.int .i64 10) := cell_of_row _ _ 0 _ _ _ H2.out.2.2.2
  have q1_2 : w2.cell? ⟨w.heap.size, 1, none⟩ = some (.string (strL tx)) := cell_of_row _ _ 1 _ _ _ H2.out.2.2.2
  have q2_2 : w2.cell? ⟨w.heap.size, 2, none⟩ = some (.slice ao m cap) := cell_of_row _ _ 2 _ _ _ H2.out.2.2.2
  go_wp2_with fail
  go_end0
  exact ⟨rfl, by simpa only [List.append_assoc, List.cons_append, List.nil_append, List.append_nil] using H2.out.1, H2.out.2.2.1⟩
set_option maxRecDepth 100000 in
set_option maxHeartbeats 4000000 in
theorem pnode_op (W : World) (nv : Value) (ns : List Nod) (hns : NdIs W nv ns) (d i : Nat) (tx : List UInt8) (ks : List Nat) (fs : List (Nat → List UInt8)) (hnd : ns[i]? = some ⟨19, tx, ks⟩) (hfs : PCs W nv d ks fs) (htx : tx.length ≤ 1000000) : PCt W nv (d) i (fun bl => [40] ++ (joinT (32 :: (tx ++ [32])) (fs.map fun f : Nat → List UInt8 => f bl) ++ [41])) := by
  intro p bl acc w hp hw hs hd hl
  obtain ⟨hi, hnd⟩ := List.getElem?_eq_some_iff.1 hnd
  obtain ⟨na, nc, rfl, hnc, hn63, hncell⟩ := hns
  obtain ⟨nb, no, rfl, hnb, hnat⟩ := hncell (by omega)
  obtain ⟨e0, e1, lv, e2, hks⟩ := hnat i hi
  rw [hnd] at e0 e1 hks
  have n0 : w.cell? ⟨p, 0, none⟩ = some (.slice (some ⟨nb, no, none⟩) ns.length nc) := by
    obtain ⟨ad, bf, h1, _⟩ := hs.out
    exact cell_of_row _ _ 0 _ _ _ h1
  have f0 : w.cell? ⟨nb, no + i * 3, none⟩ = some (.int .i64 19) := (hw.cell (p := ⟨nb, no + i * 3, none⟩) hnb (by simp)).trans e0
  have f1 : w.cell? ⟨nb, no + i * 3 + 1, none⟩ = some (.string (strL tx)) := (hw.cell (p := ⟨nb, no + i * 3 + 1, none⟩) hnb (by simp)).trans e1
  have f2 := (hw.cell (p := ⟨nb, no + i * 3 + 2, none⟩) hnb (by simp)).trans e2
  obtain ⟨N, hN⟩ : ∃ N, ns.length = N := ⟨_, rfl⟩
  obtain ⟨nv, hnv⟩ : ∃ nv, Value.slice (some ⟨nb, no, none⟩) ns.length nc = nv := ⟨_, rfl⟩
  rw [hN] at hi n0 hnc
  have HNV := Lib.hid hnv
  rw [hnv] at hs hfs
  clear e0 e1 e2 hnat hncell hnb hnv hnd hN
  simp only at hl ⊢
  obtain ⟨ao, m, cap, rfl⟩ : ∃ ao n cap, lv = .slice ao n cap := by obtain ⟨a, c, h, _⟩ := hks; exact ⟨_, _, _, h⟩
  have HKS := Lib.hid hks
  clear hks
  have HFS := Lib.hid hfs
  clear hfs
  have hsz : (strL tx).size ≤ 1000000 := by rw [strL_size]; omega
  have HL := Lib.hid hl
  have HD := Lib.hid hd
  have HWP := Lib.hid hp
  have HW := Lib.hid hw
  have H0 : Hid (PgSt p nv bl acc w ∧ Kept [] W w) := ⟨hs, hw⟩
  clear hl hs hw hd hp
  rw [HNV.out]
  clear HNV
  go_enter Tryz.func23, Tryz.ntmps23
  obtain ⟨w1, hw1⟩ : ∃ w1, w.alloc (.cells #[.int .i64 19, .string (strL tx), .slice ao m cap] 41) = w1 := ⟨_, rfl⟩
  have H1 : Hid (PgSt p nv bl (acc) w1 ∧ Kept [] W w1 ∧ PF p w w1 ∧ w1.heap[w.heap.size]? = some (.cells #[.int .i64 19, .string (strL tx), .slice ao m cap] 41)) := by
    rw [← hw1]
    exact ⟨H0.out.1.go (Kept.alloc _ _ _), H0.out.2.trans (Kept.alloc _ _ _), PF.of (Kept.alloc _ _ _), heap_alloc_last _ _⟩
  have hqp : Hid (w.heap.size ≠ p ∧ p < w.heap.size) := ⟨by have := H0.out.1.lt; omega, H0.out.1.lt⟩
  have q0_1 : w1.cell? ⟨w.heap.size, 0, none⟩ = some (.int .i64 19) := cell_of_row _ _ 0 _ _ _ H1.out.2.2.2
  have q1_1 : w1.cell? ⟨w.heap.size, 1, none⟩ = some (.string (strL tx)) := cell_of_row _ _ 1 _ _ _ H1.out.2.2.2
  have q2_1 : w1.cell? ⟨w.heap.size, 2, none⟩ = some (.slice ao m cap) := cell_of_row _ _ 2 _ _ _ H1.out.2.2.2
  obtain ⟨v1, hv1⟩ : ∃ v, w1.alloc (.cells #[.string ⟨#[40]⟩] 9) = v := ⟨_, rfl⟩
  have K1 : Hid (Kept [] w1 v1 ∧ v1.heap[w1.heap.size]? = some (.cells #[.string (strL [40])] 9)) := by
    rw [← hv1]
    exact ⟨Kept.alloc _ _ _, heap_alloc_last _ _⟩
  have HP := Lib.hid (pput_one p nv bl (acc) [40] w1.heap.size v1 (H1.out.1.go K1.out.1) K1.out.2 (by have := HL.out; simp only [List.length_append, List.length_cons, List.length_nil] at this ⊢; omega))
  go_wp2_with fail
  refine HP.out.mono ?_
  rintro e w2 ⟨rfl, h, hk⟩
  have H2 : Hid (PgSt p nv bl (acc ++ [40]) w2 ∧ Kept [] W w2 ∧ PF p w w2 ∧ w2.heap[w.heap.size]? = some (.cells #[.int .i64 19, .string (strL tx), .slice ao m cap] 41)) := by
    have z := (PF.of K1.out.1).trans hk
    exact ⟨h, PF.kept HW.out (H1.out.2.2.1.trans z) HWP.out, H1.out.2.2.1.trans z, z.heap H1.out.2.2.2 hqp.out.1 (by decide)⟩
  clear h hk HP H1 q0_1 q1_1 q2_1 hv1 K1
  have q0_2 : w2.cell? ⟨w.heap.size, 0, none⟩ = some (.int .i64 19) := cell_of_row _ _ 0 _ _ _ H2.out.2.2.2
  have q1_2 : w2.cell? ⟨w.heap.size, 1, none⟩ = some (.string (strL tx)) := cell_of_row _ _ 1 _ _ _ H2.out.2.2.2
  have q2_2 : w2.cell? ⟨w.heap.size, 2, none⟩ = some (.slice ao m cap) := cell_of_row _ _ 2 _ _ _ H2.out.2.2.2
  have hsb : (⟨#[32]⟩ : ByteArray) ++ strL tx ++ ⟨#[32]⟩ = strL (32 :: (tx ++ [32])) := by apply ByteArray.ext; apply Array.ext'; simp [strL]
  have HSB := Lib.hid hsb
  clear hsb
  have HP := Lib.hid (plist_any W nv d ks fs (32 :: (tx ++ [32])) _ HKS.out HFS.out p bl (acc ++ [40]) w2 HWP.out H2.out.2.1 H2.out.1 HD.out (by have := HL.out; simp only [List.length_append, List.length_cons, List.length_nil] at this ⊢; omega))
  rw [← HSB.out] at HP
  go_wp2_with fail
  refine HP.out.mono ?_
  rintro e w3 ⟨rfl, h, hk⟩
  have H3 : Hid (PgSt p nv bl (acc ++ [40] ++ joinT (32 :: (tx ++ [32])) (fs.map fun f : Nat → List UInt8 => f bl)) w3 ∧ Kept [] W w3 ∧ PF p w w3 ∧ w3.heap[w.heap.size]? = some (.cells #[.int .i64 19, .string (strL tx), .slice ao m cap] 41)) := by
    have z := (PF.refl _ _).trans hk
    exact ⟨h, PF.kept HW.out (H2.out.2.2.1.trans z) HWP.out, H2.out.2.2.1.trans z, z.heap H2.out.2.2.2 hqp.out.1 (by decide)⟩
  clear h hk HP H2 q0_2 q1_2 q2_2
  have q0_3 : w3.cell? ⟨w.heap.size, 0, none⟩ = some (.int .i64 19) := cell_of_row _ _ 0 _ _ _ H3.out.2.2.2
  have q1_3 : w3.cell? ⟨w.heap.size, 1, none⟩ = some (.string (strL tx)) := cell_of_row _ _ 1 _ _ _ H3.out.2.2.2
  have q2_3 : w3.cell? ⟨w.heap.size, 2, none⟩ = some (.slice ao m cap) := cell_of_row _ _ 2 _ _ _ H3.out.2.2.2
  obtain ⟨v3, hv3⟩ : ∃ v, w3.alloc (.cells #[.string ⟨#[41]⟩] 9) = v := ⟨_, rfl⟩
  have K3 : Hid (Kept [] w3 v3 ∧ v3.heap[w3.heap.size]? = some (.cells #[.string (strL [41])] 9)) := by
    rw [← hv3]
    exact ⟨Kept.alloc _ _ _, heap_alloc_last _ _⟩
  have HP := Lib.hid (pput_one p nv bl (acc ++ [40] ++ joinT (32 :: (tx ++ [32])) (fs.map fun f : Nat → List UInt8 => f bl)) [41] w3.heap.size v3 (H3.out.1.go K3.out.1) K3.out.2 (by have := HL.out; simp only [List.length_append, List.length_cons, List.length_nil] at this ⊢; omega))
  go_wp2_with fail
  refine HP.out.mono ?_
  rintro e w4 ⟨rfl, h, hk⟩
  have H4 : Hid (PgSt p nv bl (acc ++ [40] ++ joinT (32 :: (tx ++ [32])) (fs.map fun f : Nat → List UInt8 => f bl) ++ [41]) w4 ∧ Kept [] W w4 ∧ PF p w w4 ∧ w4.heap[w.heap.size]? = some (.cells #[.int .i64 19, .string (strL tx), .slice ao m cap] 41)) := by
    have z := (PF.of K3.out.1).trans hk
    exact ⟨h, PF.kept HW.out (H3.out.2.2.1.trans z) HWP.out, H3.out.2.2.1.trans z, z.heap H3.out.2.2.2 hqp.out.1 (by decide)⟩
  clear h hk HP H3 q0_3 q1_3 q2_3 hv3 K3
  have q0_4 : w4.cell? ⟨w.heap.size, 0, none⟩ = some (.int .i64 19) := cell_of_row _ _ 0 _ _ _ H4.out.2.2.2
  have q1_4 : w4.cell? ⟨w.heap.size, 1, none⟩ = some (.string (strL tx)) := cell_of_row _ _ 1 _ _ _ H4.out.2.2.2
  have q2_4 : w4.cell? ⟨w.heap.size, 2, none⟩ = some (.slice ao m cap) := cell_of_row _ _ 2 _ _ _ H4.out.2.2.2
  go_wp2_with fail
  go_end0
  exact ⟨rfl, by simpa only [List.append_assoc, List.cons_append, List.nil_append, List.append_nil] using H4.out.1, H4.out.2.2.1⟩
end Go.Proofs.YtfpdgdacifiejaaGreat
