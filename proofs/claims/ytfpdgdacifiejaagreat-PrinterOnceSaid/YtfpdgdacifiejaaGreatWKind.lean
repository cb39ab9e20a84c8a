/-
  Layer 13: nodes with others below them are laid: variables, conditions, resources, declarations.
  Conditions: those that each theorem states.
-/
import Derived.Test.YtfpdgdacifiejaaGreatWBlock
namespace Go.Proofs.YtfpdgdacifiejaaGreat
open Go.RowKit Go.Maps

set_option maxRecDepth 100000 in
set_option maxHeartbeats 4000000 in
theorem pvar_none (W : World) (nv : Value) (p bl d : Nat) (acc : List UInt8) (w : World) (hp : W.heap.size ≤ p) (hw : Kept [] W w) (hs : PgSt p nv bl acc w) (hd : bl + d ≤ 5000) (kd : Nat) (tx : List UInt8) (lv : Value) (hks : KsIs W lv []) (hl : acc.length + ((36 :: tx) ++ []).length ≤ 70368744177664) :
    Calls Tryz.prog 44 #[.pointer (some ⟨p, 0, none⟩), .agg #[.int .i64 (kd : Int), .string (strL tx), lv]] w (PgOut p nv bl (acc ++ ((36 :: tx) ++ [])) w) := by
  obtain ⟨ao, cap, rfl, hcap, hc63, hcell⟩ := hks
  rw [show ([] : List Nat).length = 0 from rfl]
  clear hcell hcap
  have HL := Lib.hid hl
  have HD := Lib.hid hd
  have HWP := Lib.hid hp
  have HW := Lib.hid hw
  have H0 : Hid (PgSt p nv bl acc w ∧ Kept [] W w) := ⟨hs, hw⟩
  clear hl hs hw hd hp
  go_enter Tryz.func44, Tryz.ntmps44
  obtain ⟨w1, hw1⟩ : ∃ w1, w.alloc (.cells #[.int .i64 (kd : Int), .string (strL tx), .slice ao 0 cap] 41) = w1 := ⟨_, rfl⟩
  have H1 : Hid (PgSt p nv bl (acc) w1 ∧ Kept [] W w1 ∧ PF p w w1 ∧ w1.heap[w.heap.size]? = some (.cells #[.int .i64 (kd : Int), .string (strL tx), .slice ao 0 cap] 41)) := by
    rw [← hw1]
    exact ⟨H0.out.1.go (Kept.alloc _ _ _), H0.out.2.trans (Kept.alloc _ _ _), PF.of (Kept.alloc _ _ _), heap_alloc_last _ _⟩
  have hqp : Hid (w.heap.size ≠ p ∧ p < w.heap.size) := ⟨by have := H0.out.1.lt; omega, H0.out.1.lt⟩
  have q0_1 : w1.cell? ⟨w.heap.size, 0, none⟩ = some (.int .i64 (kd : Int)) := cell_of_row _ _ 0 _ _ _ H1.out.2.2.2
  have q1_1 : w1.cell? ⟨w.heap.size, 1, none⟩ = some (.string (strL tx)) := cell_of_row _ _ 1 _ _ _ H1.out.2.2.2
  have q2_1 : w1.cell? ⟨w.heap.size, 2, none⟩ = some (.slice ao 0 cap) := cell_of_row _ _ 2 _ _ _ H1.out.2.2.2
  go_wp2_with fail
  refine (show Calls Tryz.prog 66 #[.int .i64 3, .string (strL tx)] w1 fun e w' => e = .returned (.string (strL (36 :: tx))) ∧ w1 = w' from pcovered_any 3 tx w1 (by have := HL.out; simp only [List.length_append, List.length_cons, List.length_nil] at this; omega)).mono ?_
  rintro e w' ⟨rfl, rfl⟩
  obtain ⟨v1, hv1⟩ : ∃ v, w1.alloc (.cells #[.string (strL (36 :: tx))] 9) = v := ⟨_, rfl⟩
  have K1 : Hid (Kept [] w1 v1 ∧ v1.heap[w1.heap.size]? = some (.cells #[.string (strL (36 :: tx))] 9)) := by
    rw [← hv1]
    exact ⟨Kept.alloc _ _ _, heap_alloc_last _ _⟩
  have HP := Lib.hid (pput_one p nv bl (acc) (36 :: tx) w1.heap.size v1 (H1.out.1.go K1.out.1) K1.out.2 (by have := HL.out; simp only [List.length_append, List.length_cons, List.length_nil] at this ⊢; omega))
  go_wp2_with fail
  refine HP.out.mono ?_
  rintro e w2 ⟨rfl, h, hk⟩
  have H2 : Hid (PgSt p nv bl (acc ++ (36 :: tx)) w2 ∧ Kept [] W w2 ∧ PF p w w2 ∧ w2.heap[w.heap.size]? = some (.cells #[.int .i64 (kd : Int), .string (strL tx), .slice ao 0 cap] 41)) := by
    have z := (PF.of K1.out.1).trans hk
    exact ⟨h, PF.kept HW.out (H1.out.2.2.1.trans z) HWP.out, H1.out.2.2.1.trans z, z.heap H1.out.2.2.2 hqp.out.1 (by decide)⟩
  clear h hk HP H1 q0_1 q1_1 q2_1 hv1 K1
  have q0_2 : w2.cell? ⟨w.heap.size, 0, none⟩ = some (.int .i64 (kd : Int)) := cell_of_row _ _ 0 _ _ _ H2.out.2.2.2
  have q1_2 : w2.cell? ⟨w.heap.size, 1, none⟩ = some (.string (strL tx)) := cell_of_row _ _ 1 _ _ _ H2.out.2.2.2
  have q2_2 : w2.cell? ⟨w.heap.size, 2, none⟩ = some (.slice ao 0 cap) := cell_of_row _ _ 2 _ _ _ H2.out.2.2.2
  go_wp2_with fail
  go_end0
  exact ⟨rfl, by simpa only [List.append_assoc, List.cons_append, List.nil_append, List.append_nil] using H2.out.1, H2.out.2.2.1⟩
set_option maxRecDepth 100000 in
set_option maxHeartbeats 4000000 in
theorem pvar_one (W : World) (nv : Value) (p bl d : Nat) (acc : List UInt8) (w : World) (hp : W.heap.size ≤ p) (hw : Kept [] W w) (hs : PgSt p nv bl acc w) (hd : bl + d ≤ 5000) (kd : Nat) (tx : List UInt8) (lv : Value) (x : Nat) (f : Nat → List UInt8) (hks : KsIs W lv [x]) (hf : PCt W nv d x f) (hl : acc.length + ((36 :: tx) ++ ([32, 61, 32] ++ f bl)).length ≤ 70368744177664) :
    Calls Tryz.prog 44 #[.pointer (some ⟨p, 0, none⟩), .agg #[.int .i64 (kd : Int), .string (strL tx), lv]] w (PgOut p nv bl (acc ++ ((36 :: tx) ++ ([32, 61, 32] ++ f bl))) w) := by
  obtain ⟨ao, cap, rfl, hcap, hc63, hcell⟩ := hks
  obtain ⟨B, O, rfl, hb2, hc2⟩ := hcell (by simp)
  have HB2 := Lib.hid hb2
  have HE0 : Hid (W.cell? ⟨B, O, none⟩ = some (.int .i64 (x : Int))) := hc2 0 (by simp)
  rw [show [x].length = 1 from rfl]
  have hcap2 : 1 ≤ cap := by simpa using hcap
  have HF := Lib.hid hf
  clear hcell hc2 hb2 hf hcap
  have HL := Lib.hid hl
  have HD := Lib.hid hd
  have HWP := Lib.hid hp
  have HW := Lib.hid hw
  have H0 : Hid (PgSt p nv bl acc w ∧ Kept [] W w) := ⟨hs, hw⟩
  clear hl hs hw hd hp
  go_enter Tryz.func44, Tryz.ntmps44
  obtain ⟨w1, hw1⟩ : ∃ w1, w.alloc (.cells #[.int .i64 (kd : Int), .string (strL tx), .slice (some ⟨B, O, none⟩) 1 cap] 41) = w1 := ⟨_, rfl⟩
  have H1 : Hid (PgSt p nv bl (acc) w1 ∧ Kept [] W w1 ∧ PF p w w1 ∧ w1.heap[w.heap.size]? = some (.cells #[.int .i64 (kd : Int), .string (strL tx), .slice (some ⟨B, O, none⟩) 1 cap] 41)) := by
    rw [← hw1]
    exact ⟨H0.out.1.go (Kept.alloc _ _ _), H0.out.2.trans (Kept.alloc _ _ _), PF.of (Kept.alloc _ _ _), heap_alloc_last _ _⟩
  have hqp : Hid (w.heap.size ≠ p ∧ p < w.heap.size) := ⟨by have := H0.out.1.lt; omega, H0.out.1.lt⟩
  have q0_1 : w1.cell? ⟨w.heap.size, 0, none⟩ = some (.int .i64 (kd : Int)) := cell_of_row _ _ 0 _ _ _ H1.out.2.2.2
  have q1_1 : w1.cell? ⟨w.heap.size, 1, none⟩ = some (.string (strL tx)) := cell_of_row _ _ 1 _ _ _ H1.out.2.2.2
  have q2_1 : w1.cell? ⟨w.heap.size, 2, none⟩ = some (.slice (some ⟨B, O, none⟩) 1 cap) := cell_of_row _ _ 2 _ _ _ H1.out.2.2.2
  go_wp2_with fail
  refine (show Calls Tryz.prog 66 #[.int .i64 3, .string (strL tx)] w1 fun e w' => e = .returned (.string (strL (36 :: tx))) ∧ w1 = w' from pcovered_any 3 tx w1 (by have := HL.out; simp only [List.length_append, List.length_cons, List.length_nil] at this; omega)).mono ?_
  rintro e w' ⟨rfl, rfl⟩
  obtain ⟨v1, hv1⟩ : ∃ v, w1.alloc (.cells #[.string (strL (36 :: tx))] 9) = v := ⟨_, rfl⟩
  have K1 : Hid (Kept [] w1 v1 ∧ v1.heap[w1.heap.size]? = some (.cells #[.string (strL (36 :: tx))] 9)) := by
    rw [← hv1]
    exact ⟨Kept.alloc _ _ _, heap_alloc_last _ _⟩
  have HP := Lib.hid (pput_one p nv bl (acc) (36 :: tx) w1.heap.size v1 (H1.out.1.go K1.out.1) K1.out.2 (by have := HL.out; simp only [List.length_append, List.length_cons, List.length_nil] at this ⊢; omega))
  go_wp2_with fail
  refine HP.out.mono ?_
  rintro e w2 ⟨rfl, h, hk⟩
  have H2 : Hid (PgSt p nv bl (acc ++ (36 :: tx)) w2 ∧ Kept [] W w2 ∧ PF p w w2 ∧ w2.heap[w.heap.size]? = some (.cells #[.int .i64 (kd : Int), .string (strL tx), .slice (some ⟨B, O, none⟩) 1 cap] 41)) := by
    have z := (PF.of K1.out.1).trans hk
    exact ⟨h, PF.kept HW.out (H1.out.2.2.1.trans z) HWP.out, H1.out.2.2.1.trans z, z.heap H1.out.2.2.2 hqp.out.1 (by decide)⟩
  clear h hk HP H1 q0_1 q1_1 q2_1 hv1 K1
  have q0_2 : w2.cell? ⟨w.heap.size, 0, none⟩ = some (.int .i64 (kd : Int)) := cell_of_row _ _ 0 _ _ _ H2.out.2.2.2
  have q1_2 : w2.cell? ⟨w.heap.size, 1, none⟩ = some (.string (strL tx)) := cell_of_row _ _ 1 _ _ _ H2.out.2.2.2
  have q2_2 : w2.cell? ⟨w.heap.size, 2, none⟩ = some (.slice (some ⟨B, O, none⟩) 1 cap) := cell_of_row _ _ 2 _ _ _ H2.out.2.2.2
  obtain ⟨v2, hv2⟩ : ∃ v, w2.alloc (.cells #[.string ⟨#[32, 61, 32]⟩] 9) = v := ⟨_, rfl⟩
  have K2 : Hid (Kept [] w2 v2 ∧ v2.heap[w2.heap.size]? = some (.cells #[.string (strL [32, 61, 32])] 9)) := by
    rw [← hv2]
    exact ⟨Kept.alloc _ _ _, heap_alloc_last _ _⟩
  have HP := Lib.hid (pput_one p nv bl (acc ++ (36 :: tx)) [32, 61, 32] w2.heap.size v2 (H2.out.1.go K2.out.1) K2.out.2 (by have := HL.out; simp only [List.length_append, List.length_cons, List.length_nil] at this ⊢; omega))
  go_wp2_with fail
  refine HP.out.mono ?_
  rintro e w3 ⟨rfl, h, hk⟩
  have H3 : Hid (PgSt p nv bl (acc ++ (36 :: tx) ++ [32, 61, 32]) w3 ∧ Kept [] W w3 ∧ PF p w w3 ∧ w3.heap[w.heap.size]? = some (.cells #[.int .i64 (kd : Int), .string (strL tx), .slice (some ⟨B, O, none⟩) 1 cap] 41)) := by
    have z := (PF.of K2.out.1).trans hk
    exact ⟨h, PF.kept HW.out (H2.out.2.2.1.trans z) HWP.out, H2.out.2.2.1.trans z, z.heap H2.out.2.2.2 hqp.out.1 (by decide)⟩
  clear h hk HP H2 q0_2 q1_2 q2_2 hv2 K2
  have q0_3 : w3.cell? ⟨w.heap.size, 0, none⟩ = some (.int .i64 (kd : Int)) := cell_of_row _ _ 0 _ _ _ H3.out.2.2.2
  have q1_3 : w3.cell? ⟨w.heap.size, 1, none⟩ = some (.string (strL tx)) := cell_of_row _ _ 1 _ _ _ H3.out.2.2.2
  have q2_3 : w3.cell? ⟨w.heap.size, 2, none⟩ = some (.slice (some ⟨B, O, none⟩) 1 cap) := cell_of_row _ _ 2 _ _ _ H3.out.2.2.2
  have qx_3 : w3.cell? ⟨B, O, none⟩ = some (.int .i64 (x : Int)) := (H3.out.2.1.cell (p := ⟨B, O, none⟩) HB2.out (by simp)).trans HE0.out
  have HP := Lib.hid (HF.out p bl (acc ++ (36 :: tx) ++ [32, 61, 32]) w3 HWP.out H3.out.2.1 H3.out.1 HD.out (by have := HL.out; simp only [List.length_append, List.length_cons, List.length_nil] at this ⊢; omega))
  go_wp2_with fail
  refine HP.out.mono ?_
  rintro e w4 ⟨rfl, h, hk⟩
  have H4 : Hid (PgSt p nv bl (acc ++ (36 :: tx) ++ [32, 61, 32] ++ f bl) w4 ∧ Kept [] W w4 ∧ PF p w w4 ∧ w4.heap[w.heap.size]? = some (.cells #[.int .i64 (kd : Int), .string (strL tx), .slice (some ⟨B, O, none⟩) 1 cap] 41)) := by
    have z := (PF.refl _ _).trans hk
    exact ⟨h, PF.kept HW.out (H3.out.2.2.1.trans z) HWP.out, H3.out.2.2.1.trans z, z.heap H3.out.2.2.2 hqp.out.1 (by decide)⟩
  clear h hk HP H3 q0_3 q1_3 q2_3 qx_3
  have q0_4 : w4.cell? ⟨w.heap.size, 0, none⟩ = some (.int .i64 (kd : Int)) := cell_of_row _ _ 0 _ _ _ H4.out.2.2.2
  have q1_4 : w4.cell? ⟨w.heap.size, 1, none⟩ = some (.string (strL tx)) := cell_of_row _ _ 1 _ _ _ H4.out.2.2.2
  have q2_4 : w4.cell? ⟨w.heap.size, 2, none⟩ = some (.slice (some ⟨B, O, none⟩) 1 cap) := cell_of_row _ _ 2 _ _ _ H4.out.2.2.2
  go_wp2_with fail
  go_end0
  exact ⟨rfl, by simpa only [List.append_assoc, List.cons_append, List.nil_append, List.append_nil] using H4.out.1, H4.out.2.2.1⟩
set_option maxRecDepth 100000 in
set_option maxHeartbeats 4000000 in
theorem pres_none (W : World) (nv : Value) (p bl d : Nat) (acc : List UInt8) (w : World) (hp : W.heap.size ≤ p) (hw : Kept [] W w) (hs : PgSt p nv bl acc w) (hd : bl + d ≤ 5000) (kd : Nat) (tx : List UInt8) (lv : Value) (x : Nat) (f : Nat → List UInt8) (hks : KsIs W lv [x]) (hf : PCt W nv d x f) (hl : acc.length + (tx ++ ([32, 123, 32] ++ (f bl ++ ([58] ++ [32, 125])))).length ≤ 70368744177664) :
    Calls Tryz.prog 47 #[.pointer (some ⟨p, 0, none⟩), .agg #[.int .i64 (kd : Int), .string (strL tx), lv]] w (PgOut p nv bl (acc ++ (tx ++ ([32, 123, 32] ++ (f bl ++ ([58] ++ [32, 125]))))) w) := by
  obtain ⟨ao, cap, rfl, hcap, hc63, hcell⟩ := hks
  obtain ⟨B, O, rfl, hb2, hc2⟩ := hcell (by simp)
  have HB2 := Lib.hid hb2
  have HE0 : Hid (W.cell? ⟨B, O, none⟩ = some (.int .i64 (x : Int))) := hc2 0 (by simp)
  rw [show [x].length = 1 from rfl]
  have hcap2 : 1 ≤ cap := by simpa using hcap
  have HF := Lib.hid hf
  clear hcell hc2 hb2 hf hcap
  have HL := Lib.hid hl
  have HD := Lib.hid hd
  have HWP := Lib.hid hp
  have HW := Lib.hid hw
  have H0 : Hid (PgSt p nv bl acc w ∧ Kept [] W w) := ⟨hs, hw⟩
  clear hl hs hw hd hp
  go_enter Tryz.func47, Tryz.ntmps47
  obtain ⟨w1, hw1⟩ : ∃ w1, w.alloc (.cells #[.int .i64 (kd : Int), .string (strL tx), .slice (some ⟨B, O, none⟩) 1 cap] 41) = w1 := ⟨_, rfl⟩
  have H1 : Hid (PgSt p nv bl (acc) w1 ∧ Kept [] W w1 ∧ PF p w w1 ∧ w1.heap[w.heap.size]? = some (.cells #[.int .i64 (kd : Int), .string (strL tx), .slice (some ⟨B, O, none⟩) 1 cap] 41)) := by
    rw [← hw1]
    exact ⟨H0.out.1.go (Kept.alloc _ _ _), H0.out.2.trans (Kept.alloc _ _ _), PF.of (Kept.alloc _ _ _), heap_alloc_last _ _⟩
  have hqp : Hid (w.heap.size ≠ p ∧ p < w.heap.size) := ⟨by have := H0.out.1.lt; omega, H0.out.1.lt⟩
  have q0_1 : w1.cell? ⟨w.heap.size, 0, none⟩ = some (.int .i64 (kd : Int)) := cell_of_row _ _ 0 _ _ _ H1.out.2.2.2
  have q1_1 : w1.cell? ⟨w.heap.size, 1, none⟩ = some (.string (strL tx)) := cell_of_row _ _ 1 _ _ _ H1.out.2.2.2
  have q2_1 : w1.cell? ⟨w.heap.size, 2, none⟩ = some (.slice (some ⟨B, O, none⟩) 1 cap) := cell_of_row _ _ 2 _ _ _ H1.out.2.2.2
  obtain ⟨v1, hv1⟩ : ∃ v, w1.alloc (.cells #[.string (strL tx), .string ⟨#[32, 123, 32]⟩] 9) = v := ⟨_, rfl⟩
  have K1 : Hid (Kept [] w1 v1 ∧ v1.heap[w1.heap.size]? = some (.cells #[.string (strL tx), .string (strL [32, 123, 32])] 9)) := by
    rw [← hv1]
    exact ⟨Kept.alloc _ _ _, heap_alloc_last _ _⟩
  have HP := Lib.hid (pput_two p nv bl (acc) tx [32, 123, 32] w1.heap.size v1 (H1.out.1.go K1.out.1) K1.out.2 (by have := HL.out; simp only [List.length_append, List.length_cons, List.length_nil] at this ⊢; omega))
  go_wp2_with fail
  refine HP.out.mono ?_
  rintro e w2 ⟨rfl, h, hk⟩
  have H2 : Hid (PgSt p nv bl (acc ++ (tx ++ [32, 123, 32])) w2 ∧ Kept [] W w2 ∧ PF p w w2 ∧ w2.heap[w.heap.size]? = some (.cells #[.int .i64 (kd : Int), .string (strL tx), .slice (some ⟨B, O, none⟩) 1 cap] 41)) := by
    have z := (PF.of K1.out.1).trans hk
    exact ⟨h, PF.kept HW.out (H1.out.2.2.1.trans z) HWP.out, H1.out.2.2.1.trans z, z.heap H1.out.2.2.2 hqp.out.1 (by decide)⟩
  clear h hk HP H1 q0_1 q1_1 q2_1 hv1 K1
  have q0_2 : w2.cell? ⟨w.heap.size, 0, none⟩ = some (.int .i64 (kd : Int)) := cell_of_row _ _ 0 _ _ _ H2.out.2.2.2
  have q1_2 : w2.cell? ⟨w.heap.size, 1, none⟩ = some (.string (strL tx)) := cell_of_row _ _ 1 _ _ _ H2.out.2.2.2
  have q2_2 : w2.cell? ⟨w.heap.size, 2, none⟩ = some (.slice (some ⟨B, O, none⟩) 1 cap) := cell_of_row _ _ 2 _ _ _ H2.out.2.2.2
  have qx_2 : w2.cell? ⟨B, O, none⟩ = some (.int .i64 (x : Int)) := (H2.out.2.1.cell (p := ⟨B, O, none⟩) HB2.out (by simp)).trans HE0.out
  have HP := Lib.hid (HF.out p bl (acc ++ (tx ++ [32, 123, 32])) w2 HWP.out H2.out.2.1 H2.out.1 HD.out (by have := HL.out; simp only [List.length_append, List.length_cons, List.length_nil] at this ⊢; omega))
  go_wp2_with fail
  refine HP.out.mono ?_
  rintro e w3 ⟨rfl, h, hk⟩
  have H3 : Hid (PgSt p nv bl (acc ++ (tx ++ [32, 123, 32]) ++ f bl) w3 ∧ Kept [] W w3 ∧ PF p w w3 ∧ w3.heap[w.heap.size]? = some (.cells #[.int .i64 (kd : Int), .string (strL tx), .slice (some ⟨B, O, none⟩) 1 cap] 41)) := by
    have z := (PF.refl _ _).trans hk
    exact ⟨h, PF.kept HW.out (H2.out.2.2.1.trans z) HWP.out, H2.out.2.2.1.trans z, z.heap H2.out.2.2.2 hqp.out.1 (by decide)⟩
  clear h hk HP H2 q0_2 q1_2 q2_2 qx_2
  have q0_3 : w3.cell? ⟨w.heap.size, 0, none⟩ = some (.int .i64 (kd : Int)) := cell_of_row _ _ 0 _ _ _ H3.out.2.2.2
  have q1_3 : w3.cell? ⟨w.heap.size, 1, none⟩ = some (.string (strL tx)) := cell_of_row _ _ 1 _ _ _ H3.out.2.2.2
  have q2_3 : w3.cell? ⟨w.heap.size, 2, none⟩ = some (.slice (some ⟨B, O, none⟩) 1 cap) := cell_of_row _ _ 2 _ _ _ H3.out.2.2.2
  obtain ⟨v3, hv3⟩ : ∃ v, w3.alloc (.cells #[.string ⟨#[58]⟩] 9) = v := ⟨_, rfl⟩
  have K3 : Hid (Kept [] w3 v3 ∧ v3.heap[w3.heap.size]? = some (.cells #[.string (strL [58])] 9)) := by
    rw [← hv3]
    exact ⟨Kept.alloc _ _ _, heap_alloc_last _ _⟩
  have HP := Lib.hid (pput_one p nv bl (acc ++ (tx ++ [32, 123, 32]) ++ f bl) [58] w3.heap.size v3 (H3.out.1.go K3.out.1) K3.out.2 (by have := HL.out; simp only [List.length_append, List.length_cons, List.length_nil] at this ⊢; omega))
  go_wp2_with fail
  refine HP.out.mono ?_
  rintro e w4 ⟨rfl, h, hk⟩
  have H4 : Hid (PgSt p nv bl (acc ++ (tx ++ [32, 123, 32]) ++ f bl ++ [58]) w4 ∧ Kept [] W w4 ∧ PF p w w4 ∧ w4.heap[w.heap.size]? = some (.cells #[.int .i64 (kd : Int), .string (strL tx), .slice (some ⟨B, O, none⟩) 1 cap] 41)) := by
    have z := (PF.of K3.out.1).trans hk
    exact ⟨h, PF.kept HW.out (H3.out.2.2.1.trans z) HWP.out, H3.out.2.2.1.trans z, z.heap H3.out.2.2.2 hqp.out.1 (by decide)⟩
  clear h hk HP H3 q0_3 q1_3 q2_3 hv3 K3
  have q0_4 : w4.cell? ⟨w.heap.size, 0, none⟩ = some (.int .i64 (kd : Int)) := cell_of_row _ _ 0 _ _ _ H4.out.2.2.2
  have q1_4 : w4.cell? ⟨w.heap.size, 1, none⟩ = some (.string (strL tx)) := cell_of_row _ _ 1 _ _ _ H4.out.2.2.2
  have q2_4 : w4.cell? ⟨w.heap.size, 2, none⟩ = some (.slice (some ⟨B, O, none⟩) 1 cap) := cell_of_row _ _ 2 _ _ _ H4.out.2.2.2
  obtain ⟨v4, hv4⟩ : ∃ v, w4.alloc (.cells #[.string ⟨#[32, 125]⟩] 9) = v := ⟨_, rfl⟩
  have K4 : Hid (Kept [] w4 v4 ∧ v4.heap[w4.heap.size]? = some (.cells #[.string (strL [32, 125])] 9)) := by
    rw [← hv4]
    exact ⟨Kept.alloc _ _ _, heap_alloc_last _ _⟩
  have HP := Lib.hid (pput_one p nv bl (acc ++ (tx ++ [32, 123, 32]) ++ f bl ++ [58]) [32, 125] w4.heap.size v4 (H4.out.1.go K4.out.1) K4.out.2 (by have := HL.out; simp only [List.length_append, List.length_cons, List.length_nil] at this ⊢; omega))
  go_wp2_with fail
  refine HP.out.mono ?_
  rintro e w5 ⟨rfl, h, hk⟩
  have H5 : Hid (PgSt p nv bl (acc ++ (tx ++ [32, 123, 32]) ++ f bl ++ [58] ++ [32, 125]) w5 ∧ Kept [] W w5 ∧ PF p w w5 ∧ w5.heap[w.heap.size]? = some (.cells #[.int .i64 (kd : Int), .string (strL tx), .slice (some ⟨B, O, none⟩) 1 cap] 41)) := by
    have z := (PF.of K4.out.1).trans hk
    exact ⟨h, PF.kept HW.out (H4.out.2.2.1.trans z) HWP.out, H4.out.2.2.1.trans z, z.heap H4.out.2.2.2 hqp.out.1 (by decide)⟩
  clear h hk HP H4 q0_4 q1_4 q2_4 hv4 K4
  have q0_5 : w5.cell? ⟨w.heap.size, 0, none⟩ = some (.int .i64 (kd : Int)) := cell_of_row _ _ 0 _ _ _ H5.out.2.2.2
  have q1_5 : w5.cell? ⟨w.heap.size, 1, none⟩ = some (.string (strL tx)) := cell_of_row _ _ 1 _ _ _ H5.out.2.2.2
  have q2_5 : w5.cell? ⟨w.heap.size, 2, none⟩ = some (.slice (some ⟨B, O, none⟩) 1 cap) := cell_of_row _ _ 2 _ _ _ H5.out.2.2.2
  go_wp2_with fail
  go_end0
  exact ⟨rfl, by simpa only [List.append_assoc, List.cons_append, List.nil_append, List.append_nil] using H5.out.1, H5.out.2.2.1⟩
set_option maxRecDepth 100000 in
set_option maxHeartbeats 4000000 in
theorem pres_more (W : World) (nv : Value) (p bl d : Nat) (acc : List UInt8) (w : World) (hp : W.heap.size ≤ p) (hw : Kept [] W w) (hs : PgSt p nv bl acc w) (hd : bl + d ≤ 5000) (kd : Nat) (tx : List UInt8) (lv : Value) (x : Nat) (r : List Nat) (f : Nat → List UInt8) (fs : List (Nat → List UInt8)) (hks : KsIs W lv (x :: r)) (hr : r ≠ []) (hf : PCt W nv d x f) (hfs : PCs W nv d r fs) (hl : acc.length + (tx ++ ([32, 123, 32] ++ (f bl ++ ([58] ++ ([32] ++ (joinT [44, 32] (fs.map fun f : Nat → List UInt8 => f bl) ++ [32, 125])))))).length ≤ 70368744177664) :
    Calls Tryz.prog 47 #[.pointer (some ⟨p, 0, none⟩), .agg #[.int .i64 (kd : Int), .string (strL tx), lv]] w (PgOut p nv bl (acc ++ (tx ++ ([32, 123, 32] ++ (f bl ++ ([58] ++ ([32] ++ (joinT [44, 32] (fs.map fun f : Nat → List UInt8 => f bl) ++ [32, 125]))))))) w) := by
  obtain ⟨ao, cap, rfl, hcap, hc63, hcell⟩ := hks
  obtain ⟨B, O, rfl, hb2, hc2⟩ := hcell (by simp)
  have HB2 := Lib.hid hb2
  have HE0 : Hid (W.cell? ⟨B, O, none⟩ = some (.int .i64 (x : Int))) := hc2 0 (by simp)
  obtain ⟨n, hn⟩ : ∃ n, r.length = n := ⟨_, rfl⟩
  obtain ⟨c, rfl⟩ : ∃ c, cap = c + 1 := ⟨cap - 1, by simp at hcap; omega⟩
  have HT : Hid (KsIs W (.slice (some ⟨B, O + 1, none⟩) n c) r) := ⟨_, c, by rw [hn], by simp at hcap; omega, by omega, fun _ => ⟨B, O + 1, rfl, hb2, fun j hj => by have := hc2 (j + 1) (by simpa using hj); rw [Nat.add_assoc, Nat.add_comm 1 j]; simpa using this⟩⟩
  rw [show (x :: r).length = n + 1 by simp [hn]]
  have hn0 : 0 < n := by rw [← hn]; exact List.length_pos_iff.2 hr
  have hcap2 : n ≤ c := by simp [hn] at hcap; omega
  have HF := Lib.hid hf
  have HFS := Lib.hid hfs
  clear hcell hc2 hb2 hn hf hfs hcap hr
  have HL := Lib.hid hl
  have HD := Lib.hid hd
  have HWP := Lib.hid hp
  have HW := Lib.hid hw
  have H0 : Hid (PgSt p nv bl acc w ∧ Kept [] W w) := ⟨hs, hw⟩
  clear hl hs hw hd hp
  go_enter Tryz.func47, Tryz.ntmps47
  obtain ⟨w1, hw1⟩ : ∃ w1, w.alloc (.cells #[.int .i64 (kd : Int), .string (strL tx), .slice (some ⟨B, O, none⟩) (n + 1) (c + 1)] 41) = w1 := ⟨_, rfl⟩
  have H1 : Hid (PgSt p nv bl (acc) w1 ∧ Kept [] W w1 ∧ PF p w w1 ∧ w1.heap[w.heap.size]? = some (.cells #[.int .i64 (kd : Int), .string (strL tx), .slice (some ⟨B, O, none⟩) (n + 1) (c + 1)] 41)) := by
    rw [← hw1]
    exact ⟨H0.out.1.go (Kept.alloc _ _ _), H0.out.2.trans (Kept.alloc _ _ _), PF.of (Kept.alloc _ _ _), heap_alloc_last _ _⟩
  have hqp : Hid (w.heap.size ≠ p ∧ p < w.heap.size) := ⟨by have := H0.out.1.lt; omega, H0.out.1.lt⟩
  have q0_1 : w1.cell? ⟨w.heap.size, 0, none⟩ = some (.int .i64 (kd : Int)) := cell_of_row _ _ 0 _ _ _ H1.out.2.2.2
  have q1_1 : w1.cell? ⟨w.heap.size, 1, none⟩ = some (.string (strL tx)) := cell_of_row _ _ 1 _ _ _ H1.out.2.2.2
  have q2_1 : w1.cell? ⟨w.heap.size, 2, none⟩ = some (.slice (some ⟨B, O, none⟩) (n + 1) (c + 1)) := cell_of_row _ _ 2 _ _ _ H1.out.2.2.2
  obtain ⟨v1, hv1⟩ : ∃ v, w1.alloc (.cells #[.string (strL tx), .string ⟨#[32, 123, 32]⟩] 9) = v := ⟨_, rfl⟩
  have K1 : Hid (Kept [] w1 v1 ∧ v1.heap[w1.heap.size]? = some (.cells #[.string (strL tx), .string (strL [32, 123, 32])] 9)) := by
    rw [← hv1]
    exact ⟨Kept.alloc _ _ _, heap_alloc_last _ _⟩
  have HP := Lib.hid (pput_two p nv bl (acc) tx [32, 123, 32] w1.heap.size v1 (H1.out.1.go K1.out.1) K1.out.2 (by have := HL.out; simp only [List.length_append, List.length_cons, List.length_nil] at this ⊢; omega))
  go_wp2_with fail
  refine HP.out.mono ?_
  rintro e w2 ⟨rfl, h, hk⟩
  have H2 : Hid (PgSt p nv bl (acc ++ (tx ++ [32, 123, 32])) w2 ∧ Kept [] W w2 ∧ PF p w w2 ∧ w2.heap[w.heap.size]? = some (.cells #[.int .i64 (kd : Int), .string (strL tx), .slice (some ⟨B, O, none⟩) (n + 1) (c + 1)] 41)) := by
    have z := (PF.of K1.out.1).trans hk
    exact ⟨h, PF.kept HW.out (H1.out.2.2.1.trans z) HWP.out, H1.out.2.2.1.trans z, z.heap H1.out.2.2.2 hqp.out.1 (by decide)⟩
  clear h hk HP H1 q0_1 q1_1 q2_1 hv1 K1
  have q0_2 : w2.cell? ⟨w.heap.size, 0, none⟩ = some (.int .i64 (kd : Int)) := cell_of_row _ _ 0 _ _ _ H2.out.2.2.2
  have q1_2 : w2.cell? ⟨w.heap.size, 1, none⟩ = some (.string (strL tx)) := cell_of_row _ _ 1 _ _ _ H2.out.2.2.2
  have q2_2 : w2.cell? ⟨w.heap.size, 2, none⟩ = some (.slice (some ⟨B, O, none⟩) (n + 1) (c + 1)) := cell_of_row _ _ 2 _ _ _ H2.out.2.2.2
  have qx_2 : w2.cell? ⟨B, O, none⟩ = some (.int .i64 (x : Int)) := (H2.out.2.1.cell (p := ⟨B, O, none⟩) HB2.out (by simp)).trans HE0.out
  have HP := Lib.hid (HF.out p bl (acc ++ (tx ++ [32, 123, 32])) w2 HWP.out H2.out.2.1 H2.out.1 HD.out (by have := HL.out; simp only [List.length_append, List.length_cons, List.length_nil] at this ⊢; omega))
  go_wp2_with fail
  refine HP.out.mono ?_
  rintro e w3 ⟨rfl, h, hk⟩
  have H3 : Hid (PgSt p nv bl (acc ++ (tx ++ [32, 123, 32]) ++ f bl) w3 ∧ Kept [] W w3 ∧ PF p w w3 ∧ w3.heap[w.heap.size]? = some (.cells #[.int .i64 (kd : Int), .string (strL tx), .slice (some ⟨B, O, none⟩) (n + 1) (c + 1)] 41)) := by
    have z := (PF.refl _ _).trans hk
    exact ⟨h, PF.kept HW.out (H2.out.2.2.1.trans z) HWP.out, H2.out.2.2.1.trans z, z.heap H2.out.2.2.2 hqp.out.1 (by decide)⟩
  clear h hk HP H2 q0_2 q1_2 q2_2 qx_2
  have q0_3 : w3.cell? ⟨w.heap.size, 0, none⟩ = some (.int .i64 (kd : Int)) := cell_of_row _ _ 0 _ _ _ H3.out.2.2.2
  have q1_3 : w3.cell? ⟨w.heap.size, 1, none⟩ = some (.string (strL tx)) := cell_of_row _ _ 1 _ _ _ H3.out.2.2.2
  have q2_3 : w3.cell? ⟨w.heap.size, 2, none⟩ = some (.slice (some ⟨B, O, none⟩) (n + 1) (c + 1)) := cell_of_row _ _ 2 _ _ _ H3.out.2.2.2
  obtain ⟨v3, hv3⟩ : ∃ v, w3.alloc (.cells #[.string ⟨#[58]⟩] 9) = v := ⟨_, rfl⟩
  have K3 : Hid (Kept [] w3 v3 ∧ v3.heap[w3.heap.size]? = some (.cells #[.string (strL [58])] 9)) := by
    rw [← hv3]
    exact ⟨Kept.alloc _ _ _, heap_alloc_last _ _⟩
  have HP := Lib.hid (pput_one p nv bl (acc ++ (tx ++ [32, 123, 32]) ++ f bl) [58] w3.heap.size v3 (H3.out.1.go K3.out.1) K3.out.2 (by have := HL.out; simp only [List.length_append, List.length_cons, List.length_nil] at this ⊢; omega))
  go_wp2_with fail
  refine HP.out.mono ?_
  rintro e w4 ⟨rfl, h, hk⟩
  have H4 : Hid (PgSt p nv bl (acc ++ (tx ++ [32, 123, 32]) ++ f bl ++ [58]) w4 ∧ Kept [] W w4 ∧ PF p w w4 ∧ w4.heap[w.heap.size]? = some (.cells #[.int .i64 (kd : Int), .string (strL tx), .slice (some ⟨B, O, none⟩) (n + 1) (c + 1)] 41)) := by
    have z := (PF.of K3.out.1).trans hk
    exact ⟨h, PF.kept HW.out (H3.out.2.2.1.trans z) HWP.out, H3.out.2.2.1.trans z, z.heap H3.out.2.2.2 hqp.out.1 (by decide)⟩
  clear h hk HP H3 q0_3 q1_3 q2_3 hv3 K3
  have q0_4 : w4.cell? ⟨w.heap.size, 0, none⟩ = some (.int .i64 (kd : Int)) := cell_of_row _ _ 0 _ _ _ H4.out.2.2.2
  have q1_4 : w4.cell? ⟨w.heap.size, 1, none⟩ = some (.string (strL tx)) := cell_of_row _ _ 1 _ _ _ H4.out.2.2.2
  have q2_4 : w4.cell? ⟨w.heap.size, 2, none⟩ = some (.slice (some ⟨B, O, none⟩) (n + 1) (c + 1)) := cell_of_row _ _ 2 _ _ _ H4.out.2.2.2
  obtain ⟨v4, hv4⟩ : ∃ v, w4.alloc (.cells #[.string ⟨#[32]⟩] 9) = v := ⟨_, rfl⟩
  have K4 : Hid (Kept [] w4 v4 ∧ v4.heap[w4.heap.size]? = some (.cells #[.string (strL [32])] 9)) := by
    rw [← hv4]
    exact ⟨Kept.alloc _ _ _, heap_alloc_last _ _⟩
  have HP := Lib.hid (pput_one p nv bl (acc ++ (tx ++ [32, 123, 32]) ++ f bl ++ [58]) [32] w4.heap.size v4 (H4.out.1.go K4.out.1) K4.out.2 (by have := HL.out; simp only [List.length_append, List.length_cons, List.length_nil] at this ⊢; omega))
  go_wp2_with fail
  refine HP.out.mono ?_
  rintro e w5 ⟨rfl, h, hk⟩
  have H5 : Hid (PgSt p nv bl (acc ++ (tx ++ [32, 123, 32]) ++ f bl ++ [58] ++ [32]) w5 ∧ Kept [] W w5 ∧ PF p w w5 ∧ w5.heap[w.heap.size]? = some (.cells #[.int .i64 (kd : Int), .string (strL tx), .slice (some ⟨B, O, none⟩) (n + 1) (c + 1)] 41)) := by
    have z := (PF.of K4.out.1).trans hk
    exact ⟨h, PF.kept HW.out (H4.out.2.2.1.trans z) HWP.out, H4.out.2.2.1.trans z, z.heap H4.out.2.2.2 hqp.out.1 (by decide)⟩
  clear h hk HP H4 q0_4 q1_4 q2_4 hv4 K4
  have q0_5 : w5.cell? ⟨w.heap.size, 0, none⟩ = some (.int .i64 (kd : Int)) := cell_of_row _ _ 0 _ _ _ H5.out.2.2.2
  have q1_5 : w5.cell? ⟨w.heap.size, 1, none⟩ = some (.string (strL tx)) := cell_of_row _ _ 1 _ _ _ H5.out.2.2.2
  have q2_5 : w5.cell? ⟨w.heap.size, 2, none⟩ = some (.slice (some ⟨B, O, none⟩) (n + 1) (c + 1)) := cell_of_row _ _ 2 _ _ _ H5.out.2.2.2
  have HP := Lib.hid (plist_any W nv d r fs [44, 32] _ HT.out HFS.out p bl (acc ++ (tx ++ [32, 123, 32]) ++ f bl ++ [58] ++ [32]) w5 HWP.out H5.out.2.1 H5.out.1 HD.out (by have := HL.out; simp only [List.length_append, List.length_cons, List.length_nil] at this ⊢; omega))
  go_wp2_with fail
  refine HP.out.mono ?_
  rintro e w6 ⟨rfl, h, hk⟩
  have H6 : Hid (PgSt p nv bl (acc ++ (tx ++ [32, 123, 32]) ++ f bl ++ [58] ++ [32] ++ joinT [44, 32] (fs.map fun f : Nat → List UInt8 => f bl)) w6 ∧ Kept [] W w6 ∧ PF p w w6 ∧ w6.heap[w.heap.size]? = some (.cells #[.int .i64 (kd : Int), .string (strL tx), .slice (some ⟨B, O, none⟩) (n + 1) (c + 1)] 41)) := by
    have z := (PF.refl _ _).trans hk
    exact ⟨h, PF.kept HW.out (H5.out.2.2.1.trans z) HWP.out, H5.out.2.2.1.trans z, z.heap H5.out.2.2.2 hqp.out.1 (by decide)⟩
  clear h hk HP H5 q0_5 q1_5 q2_5
  have q0_6 : w6.cell? ⟨w.heap.size, 0, none⟩ = some (.int .i64 (kd : Int)) := cell_of_row _ _ 0 _ _ _ H6.out.2.2.2
  have q1_6 : w6.cell? ⟨w.heap.size, 1, none⟩ = some (.string (strL tx)) := cell_of_row _ _ 1 _ _ _ H6.out.2.2.2
  have q2_6 : w6.cell? ⟨w.heap.size, 2, none⟩ = some (.slice (some ⟨B, O, none⟩) (n + 1) (c + 1)) := cell_of_row _ _ 2 _ _ _ H6.out.2.2.2
  obtain ⟨v6, hv6⟩ : ∃ v, w6.alloc (.cells #[.string ⟨#[32, 125]⟩] 9) = v := ⟨_, rfl⟩
  have K6 : Hid (Kept [] w6 v6 ∧ v6.heap[w6.heap.size]? = some (.cells #[.string (strL [32, 125])] 9)) := by
    rw [← hv6]
    exact ⟨Kept.alloc _ _ _, heap_alloc_last _ _⟩
  have HP := Lib.hid (pput_one p nv bl (acc ++ (tx ++ [32, 123, 32]) ++ f bl ++ [58] ++ [32] ++ joinT [44, 32] (fs.map fun f : Nat → List UInt8 => f bl)) [32, 125] w6.heap.size v6 (H6.out.1.go K6.out.1) K6.out.2 (by have := HL.out; simp only [List.length_append, List.length_cons, List.length_nil] at this ⊢; omega))
  go_wp2_with fail
  refine HP.out.mono ?_
  rintro e w7 ⟨rfl, h, hk⟩
  have H7 : Hid (PgSt p nv bl (acc ++ (tx ++ [32, 123, 32]) ++ f bl ++ [58] ++ [32] ++ joinT [44, 32] (fs.map fun f : Nat → List UInt8 => f bl) ++ [32, 125]) w7 ∧ Kept [] W w7 ∧ PF p w w7 ∧ w7.heap[w.heap.size]? = some (.cells #[.int .i64 (kd : Int), .string (strL tx), .slice (some ⟨B, O, none⟩) (n + 1) (c + 1)] 41)) := by
    have z := (PF.of K6.out.1).trans hk
    exact ⟨h, PF.kept HW.out (H6.out.2.2.1.trans z) HWP.out, H6.out.2.2.1.trans z, z.heap H6.out.2.2.2 hqp.out.1 (by decide)⟩
  clear h hk HP H6 q0_6 q1_6 q2_6 hv6 K6
  have q0_7 : w7.cell? ⟨w.heap.size, 0, none⟩ = some (.int .i64 (kd : Int)) := cell_of_row _ _ 0 _ _ _ H7.out.2.2.2
  have q1_7 : w7.cell? ⟨w.heap.size, 1, none⟩ = some (.string (strL tx)) := cell_of_row _ _ 1 _ _ _ H7.out.2.2.2
  have q2_7 : w7.cell? ⟨w.heap.size, 2, none⟩ = some (.slice (some ⟨B, O, none⟩) (n + 1) (c + 1)) := cell_of_row _ _ 2 _ _ _ H7.out.2.2.2
  go_wp2_with fail
  go_end0
  exact ⟨rfl, by simpa only [List.append_assoc, List.cons_append, List.nil_append, List.append_nil] using H7.out.1, H7.out.2.2.1⟩
set_option maxRecDepth 100000 in
set_option maxHeartbeats 4000000 in
theorem pdecl_none (W : World) (nv : Value) (p bl d : Nat) (acc : List UInt8) (w : World) (hp : W.heap.size ≤ p) (hw : Kept [] W w) (hs : PgSt p nv bl acc w) (hd : bl + d ≤ 5000) (kw : List UInt8) (kd : Nat) (tx : List UInt8) (lv : Value) (x : Nat) (f : Nat → List UInt8) (hks : KsIs W lv [x]) (hf : PCt W nv d x f) (hl : acc.length + (kw ++ (tx ++ ([32] ++ f bl))).length ≤ 70368744177664) :
    Calls Tryz.prog 43 #[.pointer (some ⟨p, 0, none⟩), .string (strL kw), .agg #[.int .i64 (kd : Int), .string (strL tx), lv]] w (PgOut p nv bl (acc ++ (kw ++ (tx ++ ([32] ++ f bl)))) w) := by
  obtain ⟨ao, cap, rfl, hcap, hc63, hcell⟩ := hks
  obtain ⟨B, O, rfl, hb2, hc2⟩ := hcell (by simp)
  have HB2 := Lib.hid hb2
  have HE0 : Hid (W.cell? ⟨B, O, none⟩ = some (.int .i64 (x : Int))) := hc2 0 (by simp)
  rw [show [x].length = 1 from rfl]
  have hcap2 : 1 ≤ cap := by simpa using hcap
  have HF := Lib.hid hf
  clear hcell hc2 hb2 hf hcap
  have HL := Lib.hid hl
  have HD := Lib.hid hd
  have HWP := Lib.hid hp
  have HW := Lib.hid hw
  have H0 : Hid (PgSt p nv bl acc w ∧ Kept [] W w) := ⟨hs, hw⟩
  clear hl hs hw hd hp
  go_enter Tryz.func43, Tryz.ntmps43
  obtain ⟨w1, hw1⟩ : ∃ w1, w.alloc (.cells #[.int .i64 (kd : Int), .string (strL tx), .slice (some ⟨B, O, none⟩) 1 cap] 41) = w1 := ⟨_, rfl⟩
  have H1 : Hid (PgSt p nv bl (acc) w1 ∧ Kept [] W w1 ∧ PF p w w1 ∧ w1.heap[w.heap.size]? = some (.cells #[.int .i64 (kd : Int), .string (strL tx), .slice (some ⟨B, O, none⟩) 1 cap] 41)) := by
    rw [← hw1]
    exact ⟨H0.out.1.go (Kept.alloc _ _ _), H0.out.2.trans (Kept.alloc _ _ _), PF.of (Kept.alloc _ _ _), heap_alloc_last _ _⟩
  have hqp : Hid (w.heap.size ≠ p ∧ p < w.heap.size) := ⟨by have := H0.out.1.lt; omega, H0.out.1.lt⟩
  have q0_1 : w1.cell? ⟨w.heap.size, 0, none⟩ = some (.int .i64 (kd : Int)) := cell_of_row _ _ 0 _ _ _ H1.out.2.2.2
  have q1_1 : w1.cell? ⟨w.heap.size, 1, none⟩ = some (.string (strL tx)) := cell_of_row _ _ 1 _ _ _ H1.out.2.2.2
  have q2_1 : w1.cell? ⟨w.heap.size, 2, none⟩ = some (.slice (some ⟨B, O, none⟩) 1 cap) := cell_of_row _ _ 2 _ _ _ H1.out.2.2.2
  obtain ⟨v1, hv1⟩ : ∃ v, w1.alloc (.cells #[.string (strL kw), .string (strL tx)] 9) = v := ⟨_, rfl⟩
  have K1 : Hid (Kept [] w1 v1 ∧ v1.heap[w1.heap.size]? = some (.cells #[.string (strL kw), .string (strL tx)] 9)) := by
    rw [← hv1]
    exact ⟨Kept.alloc _ _ _, heap_alloc_last _ _⟩
  have HP := Lib.hid (pput_two p nv bl (acc) kw tx w1.heap.size v1 (H1.out.1.go K1.out.1) K1.out.2 (by have := HL.out; simp only [List.length_append, List.length_cons, List.length_nil] at this ⊢; omega))
  go_wp2_with fail
  refine HP.out.mono ?_
  rintro e w2 ⟨rfl, h, hk⟩
  have H2 : Hid (PgSt p nv bl (acc ++ (kw ++ tx)) w2 ∧ Kept [] W w2 ∧ PF p w w2 ∧ w2.heap[w.heap.size]? = some (.cells #[.int .i64 (kd : Int), .string (strL tx), .slice (some ⟨B, O, none⟩) 1 cap] 41)) := by
    have z := (PF.of K1.out.1).trans hk
    exact ⟨h, PF.kept HW.out (H1.out.2.2.1.trans z) HWP.out, H1.out.2.2.1.trans z, z.heap H1.out.2.2.2 hqp.out.1 (by decide)⟩
  clear h hk HP H1 q0_1 q1_1 q2_1 hv1 K1
  have q0_2 : w2.cell? ⟨w.heap.size, 0, none⟩ = some (.int .i64 (kd : Int)) := cell_of_row _ _ 0 _ _ _ H2.out.2.2.2
  have q1_2 : w2.cell? ⟨w.heap.size, 1, none⟩ = some (.string (strL tx)) := cell_of_row _ _ 1 _ _ _ H2.out.2.2.2
  have q2_2 : w2.cell? ⟨w.heap.size, 2, none⟩ = some (.slice (some ⟨B, O, none⟩) 1 cap) := cell_of_row _ _ 2 _ _ _ H2.out.2.2.2
  obtain ⟨v2, hv2⟩ : ∃ v, w2.alloc (.cells #[.string ⟨#[32]⟩] 9) = v := ⟨_, rfl⟩
  have K2 : Hid (Kept [] w2 v2 ∧ v2.heap[w2.heap.size]? = some (.cells #[.string (strL [32])] 9)) := by
    rw [← hv2]
    exact ⟨Kept.alloc _ _ _, heap_alloc_last _ _⟩
  have HP := Lib.hid (pput_one p nv bl (acc ++ (kw ++ tx)) [32] w2.heap.size v2 (H2.out.1.go K2.out.1) K2.out.2 (by have := HL.out; simp only [List.length_append, List.length_cons, List.length_nil] at this ⊢; omega))
  go_wp2_with fail
  refine HP.out.mono ?_
  rintro e w3 ⟨rfl, h, hk⟩
  have H3 : Hid (PgSt p nv bl (acc ++ (kw ++ tx) ++ [32]) w3 ∧ Kept [] W w3 ∧ PF p w w3 ∧ w3.heap[w.heap.size]? = some (.cells #[.int .i64 (kd : Int), .string (strL tx), .slice (some ⟨B, O, none⟩) 1 cap] 41)) := by
    have z := (PF.of K2.out.1).trans hk
    exact ⟨h, PF.kept HW.out (H2.out.2.2.1.trans z) HWP.out, H2.out.2.2.1.trans z, z.heap H2.out.2.2.2 hqp.out.1 (by decide)⟩
  clear h hk HP H2 q0_2 q1_2 q2_2 hv2 K2
  have q0_3 : w3.cell? ⟨w.heap.size, 0, none⟩ = some (.int .i64 (kd : Int)) := cell_of_row _ _ 0 _ _ _ H3.out.2.2.2
  have q1_3 : w3.cell? ⟨w.heap.size, 1, none⟩ = some (.string (strL tx)) := cell_of_row _ _ 1 _ _ _ H3.out.2.2.2
  have q2_3 : w3.cell? ⟨w.heap.size, 2, none⟩ = some (.slice (some ⟨B, O, none⟩) 1 cap) := cell_of_row _ _ 2 _ _ _ H3.out.2.2.2
  have qx_3 : w3.cell? ⟨B, O, none⟩ = some (.int .i64 (x : Int)) := (H3.out.2.1.cell (p := ⟨B, O, none⟩) HB2.out (by simp)).trans HE0.out
  have HP := Lib.hid (HF.out p bl (acc ++ (kw ++ tx) ++ [32]) w3 HWP.out H3.out.2.1 H3.out.1 HD.out (by have := HL.out; simp only [List.length_append, List.length_cons, List.length_nil] at this ⊢; omega))
  go_wp2_with fail
  refine HP.out.mono ?_
  rintro e w4 ⟨rfl, h, hk⟩
  have H4 : Hid (PgSt p nv bl (acc ++ (kw ++ tx) ++ [32] ++ f bl) w4 ∧ Kept [] W w4 ∧ PF p w w4 ∧ w4.heap[w.heap.size]? = some (.cells #[.int .i64 (kd : Int), .string (strL tx), .slice (some ⟨B, O, none⟩) 1 cap] 41)) := by
    have z := (PF.refl _ _).trans hk
    exact ⟨h, PF.kept HW.out (H3.out.2.2.1.trans z) HWP.out, H3.out.2.2.1.trans z, z.heap H3.out.2.2.2 hqp.out.1 (by decide)⟩
  clear h hk HP H3 q0_3 q1_3 q2_3 qx_3
  have q0_4 : w4.cell? ⟨w.heap.size, 0, none⟩ = some (.int .i64 (kd : Int)) := cell_of_row _ _ 0 _ _ _ H4.out.2.2.2
  have q1_4 : w4.cell? ⟨w.heap.size, 1, none⟩ = some (.string (strL tx)) := cell_of_row _ _ 1 _ _ _ H4.out.2.2.2
  have q2_4 : w4.cell? ⟨w.heap.size, 2, none⟩ = some (.slice (some ⟨B, O, none⟩) 1 cap) := cell_of_row _ _ 2 _ _ _ H4.out.2.2.2
  go_wp2_with fail
  go_end0
  exact ⟨rfl, by simpa only [List.append_assoc, List.cons_append, List.nil_append, List.append_nil] using H4.out.1, H4.out.2.2.1⟩
set_option maxRecDepth 100000 in
set_option maxHeartbeats 4000000 in
theorem pdecl_more (W : World) (nv : Value) (p bl d : Nat) (acc : List UInt8) (w : World) (hp : W.heap.size ≤ p) (hw : Kept [] W w) (hs : PgSt p nv bl acc w) (hd : bl + d ≤ 5000) (kw : List UInt8) (kd : Nat) (tx : List UInt8) (lv : Value) (x : Nat) (r : List Nat) (f : Nat → List UInt8) (fs : List (Nat → List UInt8)) (hks : KsIs W lv (r ++ [x])) (hr : r ≠ []) (hf : PCt W nv d x f) (hfs : PCs W nv d r fs) (hl : acc.length + (kw ++ (tx ++ ([40] ++ (joinT [44, 32] (fs.map fun f : Nat → List UInt8 => f bl) ++ ([41] ++ ([32] ++ f bl)))))).length ≤ 70368744177664) :
    Calls Tryz.prog 43 #[.pointer (some ⟨p, 0, none⟩), .string (strL kw), .agg #[.int .i64 (kd : Int), .string (strL tx), lv]] w (PgOut p nv bl (acc ++ (kw ++ (tx ++ ([40] ++ (joinT [44, 32] (fs.map fun f : Nat → List UInt8 => f bl) ++ ([41] ++ ([32] ++ f bl))))))) w) := by
  obtain ⟨ao, cap, rfl, hcap, hc63, hcell⟩ := hks
  obtain ⟨B, O, rfl, hb2, hc2⟩ := hcell (by simp)
  have HB2 := Lib.hid hb2
  obtain ⟨n, hn⟩ : ∃ n, r.length = n := ⟨_, rfl⟩
  have HE0 : Hid (W.cell? ⟨B, O + n, none⟩ = some (.int .i64 (x : Int))) := by
    show _ = _
    have := hc2 n (by simp [hn])
    rw [List.getElem_append_right (by omega)] at this
    simpa [hn] using this
  have hcap2 : n + 1 ≤ cap := by simpa [hn] using hcap
  have HT : Hid (KsIs W (.slice (some ⟨B, O, none⟩) n cap) r) := ⟨_, cap, by rw [hn], by omega, hc63, fun _ => ⟨B, O, rfl, hb2, fun j hj => by have := hc2 j (by simp; omega); rwa [List.getElem_append_left hj] at this⟩⟩
  rw [show (r ++ [x]).length = n + 1 by simp [hn]]
  have hn0 : 0 < n := by rw [← hn]; exact List.length_pos_iff.2 hr
  have hwn : IntKind.i64.wrap (((n + 1 : Nat) : Int) - 1) = (n : Int) := by rw [IntKind.wrap_i64]; omega
  have hnl : n < n + 1 := by omega
  have HF := Lib.hid hf
  have HFS := Lib.hid hfs
  clear hcell hc2 hb2 hn hf hfs hcap hr
  have HL := Lib.hid hl
  have HD := Lib.hid hd
  have HWP := Lib.hid hp
  have HW := Lib.hid hw
  have H0 : Hid (PgSt p nv bl acc w ∧ Kept [] W w) := ⟨hs, hw⟩
  clear hl hs hw hd hp
  go_enter Tryz.func43, Tryz.ntmps43
  obtain ⟨w1, hw1⟩ : ∃ w1, w.alloc (.cells #[.int .i64 (kd : Int), .string (strL tx), .slice (some ⟨B, O, none⟩) (n + 1) cap] 41) = w1 := ⟨_, rfl⟩
  have H1 : Hid (PgSt p nv bl (acc) w1 ∧ Kept [] W w1 ∧ PF p w w1 ∧ w1.heap[w.heap.size]? = some (.cells #[.int .i64 (kd : Int), .string (strL tx), .slice (some ⟨B, O, none⟩) (n + 1) cap] 41)) := by
    rw [← hw1]
    exact ⟨H0.out.1.go (Kept.alloc _ _ _), H0.out.2.trans (Kept.alloc _ _ _), PF.of (Kept.alloc _ _ _), heap_alloc_last _ _⟩
  have hqp : Hid (w.heap.size ≠ p ∧ p < w.heap.size) := ⟨by have := H0.out.1.lt; omega, H0.out.1.lt⟩
  have q0_1 : w1.cell? ⟨w.heap.size, 0, none⟩ = some (.int .i64 (kd : Int)) := cell_of_row _ _ 0 _ _ _ H1.out.2.2.2
  have q1_1 : w1.cell? ⟨w.heap.size, 1, none⟩ = some (.string (strL tx)) := cell_of_row _ _ 1 _ _ _ H1.out.2.2.2
  have q2_1 : w1.cell? ⟨w.heap.size, 2, none⟩ = some (.slice (some ⟨B, O, none⟩) (n + 1) cap) := cell_of_row _ _ 2 _ _ _ H1.out.2.2.2
  obtain ⟨v1, hv1⟩ : ∃ v, w1.alloc (.cells #[.string (strL kw), .string (strL tx)] 9) = v := ⟨_, rfl⟩
  have K1 : Hid (Kept [] w1 v1 ∧ v1.heap[w1.heap.size]? = some (.cells #[.string (strL kw), .string (strL tx)] 9)) := by
    rw [← hv1]
    exact ⟨Kept.alloc _ _ _, heap_alloc_last _ _⟩
  have HP := Lib.hid (pput_two p nv bl (acc) kw tx w1.heap.size v1 (H1.out.1.go K1.out.1) K1.out.2 (by have := HL.out; simp only [List.length_append, List.length_cons, List.length_nil] at this ⊢; omega))
  go_wp2_with fail
  refine HP.out.mono ?_
  rintro e w2 ⟨rfl, h, hk⟩
  have H2 : Hid (PgSt p nv bl (acc ++ (kw ++ tx)) w2 ∧ Kept [] W w2 ∧ PF p w w2 ∧ w2.heap[w.heap.size]? = some (.cells #[.int .i64 (kd : Int), .string (strL tx), .slice (some ⟨B, O, none⟩) (n + 1) cap] 41)) := by
    have z := (PF.of K1.out.1).trans hk
    exact ⟨h, PF.kept HW.out (H1.out.2.2.1.trans z) HWP.out, H1.out.2.2.1.trans z, z.heap H1.out.2.2.2 hqp.out.1 (by decide)⟩
  clear h hk HP H1 q0_1 q1_1 q2_1 hv1 K1
  have q0_2 : w2.cell? ⟨w.heap.size, 0, none⟩ = some (.int .i64 (kd : Int)) := cell_of_row _ _ 0 _ _ _ H2.out.2.2.2
  have q1_2 : w2.cell? ⟨w.heap.size, 1, none⟩ = some (.string (strL tx)) := cell_of_row _ _ 1 _ _ _ H2.out.2.2.2
  have q2_2 : w2.cell? ⟨w.heap.size, 2, none⟩ = some (.slice (some ⟨B, O, none⟩) (n + 1) cap) := cell_of_row _ _ 2 _ _ _ H2.out.2.2.2
  obtain ⟨v2, hv2⟩ : ∃ v, w2.alloc (.cells #[.string ⟨#[40]⟩] 9) = v := ⟨_, rfl⟩
  have K2 : Hid (Kept [] w2 v2 ∧ v2.heap[w2.heap.size]? = some (.cells #[.string (strL [40])] 9)) := by
    rw [← hv2]
    exact ⟨Kept.alloc _ _ _, heap_alloc_last _ _⟩
  have HP := Lib.hid (pput_one p nv bl (acc ++ (kw ++ tx)) [40] w2.heap.size v2 (H2.out.1.go K2.out.1) K2.out.2 (by have := HL.out; simp only [List.length_append, List.length_cons, List.length_nil] at this ⊢; omega))
  go_wp2_with fail
  refine HP.out.mono ?_
  rintro e w3 ⟨rfl, h, hk⟩
  have H3 : Hid (PgSt p nv bl (acc ++ (kw ++ tx) ++ [40]) w3 ∧ Kept [] W w3 ∧ PF p w w3 ∧ w3.heap[w.heap.size]? = some (.cells #[.int .i64 (kd : Int), .string (strL tx), .slice (some ⟨B, O, none⟩) (n + 1) cap] 41)) := by
    have z := (PF.of K2.out.1).trans hk
    exact ⟨h, PF.kept HW.out (H2.out.2.2.1.trans z) HWP.out, H2.out.2.2.1.trans z, z.heap H2.out.2.2.2 hqp.out.1 (by decide)⟩
  clear h hk HP H2 q0_2 q1_2 q2_2 hv2 K2
  have q0_3 : w3.cell? ⟨w.heap.size, 0, none⟩ = some (.int .i64 (kd : Int)) := cell_of_row _ _ 0 _ _ _ H3.out.2.2.2
  have q1_3 : w3.cell? ⟨w.heap.size, 1, none⟩ = some (.string (strL tx)) := cell_of_row _ _ 1 _ _ _ H3.out.2.2.2
  have q2_3 : w3.cell? ⟨w.heap.size, 2, none⟩ = some (.slice (some ⟨B, O, none⟩) (n + 1) cap) := cell_of_row _ _ 2 _ _ _ H3.out.2.2.2
  have HP := Lib.hid (plist_any W nv d r fs [44, 32] _ HT.out HFS.out p bl (acc ++ (kw ++ tx) ++ [40]) w3 HWP.out H3.out.2.1 H3.out.1 HD.out (by have := HL.out; simp only [List.length_append, List.length_cons, List.length_nil] at this ⊢; omega))
  go_wp2_with fail
  refine HP.out.mono ?_
  rintro e w4 ⟨rfl, h, hk⟩
  have H4 : Hid (PgSt p nv bl (acc ++ (kw ++ tx) ++ [40] ++ joinT [44, 32] (fs.map fun f : Nat → List UInt8 => f bl)) w4 ∧ Kept [] W w4 ∧ PF p w w4 ∧ w4.heap[w.heap.size]? = some (.cells #[.int .i64 (kd : Int), .string (strL tx), .slice (some ⟨B, O, none⟩) (n + 1) cap] 41)) := by
    have z := (PF.refl _ _).trans hk
    exact ⟨h, PF.kept HW.out (H3.out.2.2.1.trans z) HWP.out, H3.out.2.2.1.trans z, z.heap H3.out.2.2.2 hqp.out.1 (by decide)⟩
  clear h hk HP H3 q0_3 q1_3 q2_3
  have q0_4 : w4.cell? ⟨w.heap.size, 0, none⟩ = some (.int .i64 (kd : Int)) := cell_of_row _ _ 0 _ _ _ H4.out.2.2.2
  have q1_4 : w4.cell? ⟨w.heap.size, 1, none⟩ = some (.string (strL tx)) := cell_of_row _ _ 1 _ _ _ H4.out.2.2.2
  have q2_4 : w4.cell? ⟨w.heap.size, 2, none⟩ = some (.slice (some ⟨B, O, none⟩) (n + 1) cap) := cell_of_row _ _ 2 _ _ _ H4.out.2.2.2
  obtain ⟨v4, hv4⟩ : ∃ v, w4.alloc (.cells #[.string ⟨#[41]⟩] 9) = v := ⟨_, rfl⟩
  have K4 : Hid (Kept [] w4 v4 ∧ v4.heap[w4.heap.size]? = some (.cells #[.string (strL [41])] 9)) := by
    rw [← hv4]
    exact ⟨Kept.alloc _ _ _, heap_alloc_last _ _⟩
  have HP := Lib.hid (pput_one p nv bl (acc ++ (kw ++ tx) ++ [40] ++ joinT [44, 32] (fs.map fun f : Nat → List UInt8 => f bl)) [41] w4.heap.size v4 (H4.out.1.go K4.out.1) K4.out.2 (by have := HL.out; simp only [List.length_append, List.length_cons, List.length_nil] at this ⊢; omega))
  go_wp2_with fail
  refine HP.out.mono ?_
  rintro e w5 ⟨rfl, h, hk⟩
  have H5 : Hid (PgSt p nv bl (acc ++ (kw ++ tx) ++ [40] ++ joinT [44, 32] (fs.map fun f : Nat → List UInt8 => f bl) ++ [41]) w5 ∧ Kept [] W w5 ∧ PF p w w5 ∧ w5.heap[w.heap.size]? = some (.cells #[.int .i64 (kd : Int), .string (strL tx), .slice (some ⟨B, O, none⟩) (n + 1) cap] 41)) := by
    have z := (PF.of K4.out.1).trans hk
    exact ⟨h, PF.kept HW.out (H4.out.2.2.1.trans z) HWP.out, H4.out.2.2.1.trans z, z.heap H4.out.2.2.2 hqp.out.1 (by decide)⟩
  clear h hk HP H4 q0_4 q1_4 q2_4 hv4 K4
  have q0_5 : w5.cell? ⟨w.heap.size, 0, none⟩ = some (.int .i64 (kd : Int)) := cell_of_row _ _ 0 _ _ _ H5.out.2.2.2
  have q1_5 : w5.cell? ⟨w.heap.size, 1, none⟩ = some (.string (strL tx)) := cell_of_row _ _ 1 _ _ _ H5.out.2.2.2
  have q2_5 : w5.cell? ⟨w.heap.size, 2, none⟩ = some (.slice (some ⟨B, O, none⟩) (n + 1) cap) := cell_of_row _ _ 2 _ _ _ H5.out.2.2.2
  obtain ⟨v5, hv5⟩ : ∃ v, w5.alloc (.cells #[.string ⟨#[32]⟩] 9) = v := ⟨_, rfl⟩
  have K5 : Hid (Kept [] w5 v5 ∧ v5.heap[w5.heap.size]? = some (.cells #[.string (strL [32])] 9)) := by
    rw [← hv5]
    exact ⟨Kept.alloc _ _ _, heap_alloc_last _ _⟩
  have HP := Lib.hid (pput_one p nv bl (acc ++ (kw ++ tx) ++ [40] ++ joinT [44, 32] (fs.map fun f : Nat → List UInt8 => f bl) ++ [41]) [32] w5.heap.size v5 (H5.out.1.go K5.out.1) K5.out.2 (by have := HL.out; simp only [List.length_append, List.length_cons, List.length_nil] at this ⊢; omega))
  go_wp2_with fail
  refine HP.out.mono ?_
  rintro e w6 ⟨rfl, h, hk⟩
  have H6 : Hid (PgSt p nv bl (acc ++ (kw ++ tx) ++ [40] ++ joinT [44, 32] (fs.map fun f : Nat → List UInt8 => f bl) ++ [41] ++ [32]) w6 ∧ Kept [] W w6 ∧ PF p w w6 ∧ w6.heap[w.heap.size]? = some (.cells #[.int .i64 (kd : Int), .string (strL tx), .slice (some ⟨B, O, none⟩) (n + 1) cap] 41)) := by
    have z := (PF.of K5.out.1).trans hk
    exact ⟨h, PF.kept HW.out (H5.out.2.2.1.trans z) HWP.out, H5.out.2.2.1.trans z, z.heap H5.out.2.2.2 hqp.out.1 (by decide)⟩
  clear h hk HP H5 q0_5 q1_5 q2_5 hv5 K5
  have q0_6 : w6.cell? ⟨w.heap.size, 0, none⟩ = some (.int .i64 (kd : Int)) := cell_of_row _ _ 0 _ _ _ H6.out.2.2.2
  have q1_6 : w6.cell? ⟨w.heap.size, 1, none⟩ = some (.string (strL tx)) := cell_of_row _ _ 1 _ _ _ H6.out.2.2.2
  have q2_6 : w6.cell? ⟨w.heap.size, 2, none⟩ = some (.slice (some ⟨B, O, none⟩) (n + 1) cap) := cell_of_row _ _ 2 _ _ _ H6.out.2.2.2
  have qx_6 : w6.cell? ⟨B, O + n, none⟩ = some (.int .i64 (x : Int)) := (H6.out.2.1.cell (p := ⟨B, O + n, none⟩) HB2.out (by simp)).trans HE0.out
  have HP := Lib.hid (HF.out p bl (acc ++ (kw ++ tx) ++ [40] ++ joinT [44, 32] (fs.map fun f : Nat → List UInt8 => f bl) ++ [41] ++ [32]) w6 HWP.out H6.out.2.1 H6.out.1 HD.out (by have := HL.out; simp only [List.length_append, List.length_cons, List.length_nil] at this ⊢; omega))
  go_wp2_with fail
  refine HP.out.mono ?_
  rintro e w7 ⟨rfl, h, hk⟩
  have H7 : Hid (PgSt p nv bl (acc ++ (kw ++ tx) ++ [40] ++ joinT [44, 32] (fs.map fun f : Nat → List UInt8 => f bl) ++ [41] ++ [32] ++ f bl) w7 ∧ Kept [] W w7 ∧ PF p w w7 ∧ w7.heap[w.heap.size]? = some (.cells #[.int .i64 (kd : Int), .string (strL tx), .slice (some ⟨B, O, none⟩) (n + 1) cap] 41)) := by
    have z := (PF.refl _ _).trans hk
    exact ⟨h, PF.kept HW.out (H6.out.2.2.1.trans z) HWP.out, H6.out.2.2.1.trans z, z.heap H6.out.2.2.2 hqp.out.1 (by decide)⟩
  clear h hk HP H6 q0_6 q1_6 q2_6 qx_6
  have q0_7 : w7.cell? ⟨w.heap.size, 0, none⟩ = some (.int .i64 (kd : Int)) := cell_of_row _ _ 0 _ _ _ H7.out.2.2.2
  have q1_7 : w7.cell? ⟨w.heap.size, 1, none⟩ = some (.string (strL tx)) := cell_of_row _ _ 1 _ _ _ H7.out.2.2.2
  have q2_7 : w7.cell? ⟨w.heap.size, 2, none⟩ = some (.slice (some ⟨B, O, none⟩) (n + 1) cap) := cell_of_row _ _ 2 _ _ _ H7.out.2.2.2
  go_wp2_with fail
  go_end0
  exact ⟨rfl, by simpa only [List.append_assoc, List.cons_append, List.nil_append, List.append_nil] using H7.out.1, H7.out.2.2.1⟩
set_option maxRecDepth 100000 in
set_option maxHeartbeats 4000000 in
theorem pcond_any (W : World) (nv : Value) (p bl d : Nat) (acc : List UInt8) (w : World) (hp : W.heap.size ≤ p) (hw : Kept [] W w) (hs : PgSt p nv bl acc w) (hd : bl + d ≤ 5000) (kd : Nat) (tx : List UInt8) (lv : Value) (x : Nat) (r : List Nat) (f : Nat → List UInt8) (fs : List (Nat → List UInt8)) (hks : KsIs W lv (x :: r)) (hr : r ≠ []) (hf : PCt W nv d x f) (hfs : PCs W nv d r fs) (hl : acc.length + ([105, 102, 32] ++ (f bl ++ ([32] ++ joinT [32, 101, 108, 115, 101, 32] (fs.map fun f : Nat → List UInt8 => f bl)))).length ≤ 70368744177664) :
    Calls Tryz.prog 46 #[.pointer (some ⟨p, 0, none⟩), .agg #[.int .i64 (kd : Int), .string (strL tx), lv]] w (PgOut p nv bl (acc ++ ([105, 102, 32] ++ (f bl ++ ([32] ++ joinT [32, 101, 108, 115, 101, 32] (fs.map fun f : Nat → List UInt8 => f bl))))) w) := by
  obtain ⟨ao, cap, rfl, hcap, hc63, hcell⟩ := hks
  obtain ⟨B, O, rfl, hb2, hc2⟩ := hcell (by simp)
  have HB2 := Lib.hid hb2
  have HE0 : Hid (W.cell? ⟨B, O, none⟩ = some (.int .i64 (x : Int))) := hc2 0 (by simp)
  obtain ⟨n, hn⟩ : ∃ n, r.length = n := ⟨_, rfl⟩
  obtain ⟨c, rfl⟩ : ∃ c, cap = c + 1 := ⟨cap - 1, by simp at hcap; omega⟩
  have HT : Hid (KsIs W (.slice (some ⟨B, O + 1, none⟩) n c) r) := ⟨_, c, by rw [hn], by simp at hcap; omega, by omega, fun _ => ⟨B, O + 1, rfl, hb2, fun j hj => by have := hc2 (j + 1) (by simpa using hj); rw [Nat.add_assoc, Nat.add_comm 1 j]; simpa using this⟩⟩
  rw [show (x :: r).length = n + 1 by simp [hn]]
  have hn0 : 0 < n := by rw [← hn]; exact List.length_pos_iff.2 hr
  have hcap2 : n ≤ c := by simp [hn] at hcap; omega
  have HF := Lib.hid hf
  have HFS := Lib.hid hfs
  clear hcell hc2 hb2 hn hf hfs hcap hr
  have HL := Lib.hid hl
  have HD := Lib.hid hd
  have HWP := Lib.hid hp
  have HW := Lib.hid hw
  have H0 : Hid (PgSt p nv bl acc w ∧ Kept [] W w) := ⟨hs, hw⟩
  clear hl hs hw hd hp
  go_enter Tryz.func46, Tryz.ntmps46
  obtain ⟨w1, hw1⟩ : ∃ w1, w.alloc (.cells #[.int .i64 (kd : Int), .string (strL tx), .slice (some ⟨B, O, none⟩) (n + 1) (c + 1)] 41) = w1 := ⟨_, rfl⟩
  have H1 : Hid (PgSt p nv bl (acc) w1 ∧ Kept [] W w1 ∧ PF p w w1 ∧ w1.heap[w.heap.size]? = some (.cells #[.int .i64 (kd : Int), .string (strL tx), .slice (some ⟨B, O, none⟩) (n + 1) (c + 1)] 41)) := by
    rw [← hw1]
    exact ⟨H0.out.1.go (Kept.alloc _ _ _), H0.out.2.trans (Kept.alloc _ _ _), PF.of (Kept.alloc _ _ _), heap_alloc_last _ _⟩
  have hqp : Hid (w.heap.size ≠ p ∧ p < w.heap.size) := ⟨by have := H0.out.1.lt; omega, H0.out.1.lt⟩
  have q0_1 : w1.cell? ⟨w.heap.size, 0, none⟩ = some (.int .i64 (kd : Int)) := cell_of_row _ _ 0 _ _ _ H1.out.2.2.2
  have q1_1 : w1.cell? ⟨w.heap.size, 1, none⟩ = some (.string (strL tx)) := cell_of_row _ _ 1 _ _ _ H1.out.2.2.2
  have q2_1 : w1.cell? ⟨w.heap.size, 2, none⟩ = some (.slice (some ⟨B, O, none⟩) (n + 1) (c + 1)) := cell_of_row _ _ 2 _ _ _ H1.out.2.2.2
  obtain ⟨v1, hv1⟩ : ∃ v, w1.alloc (.cells #[.string ⟨#[105, 102, 32]⟩] 9) = v := ⟨_, rfl⟩
  have K1 : Hid (Kept [] w1 v1 ∧ v1.heap[w1.heap.size]? = some (.cells #[.string (strL [105, 102, 32])] 9)) := by
    rw [← hv1]
    exact ⟨Kept.alloc _ _ _, heap_alloc_last _ _⟩
  have HP := Lib.hid (pput_one p nv bl (acc) [105, 102, 32] w1.heap.size v1 (H1.out.1.go K1.out.1) K1.out.2 (by have := HL.out; simp only [List.length_append, List.length_cons, List.length_nil] at this ⊢; omega))
  go_wp2_with fail
  refine HP.out.mono ?_
  rintro e w2 ⟨rfl, h, hk⟩
  have H2 : Hid (PgSt p nv bl (acc ++ [105, 102, 32]) w2 ∧ Kept [] W w2 ∧ PF p w w2 ∧ w2.heap[w.heap.size]? = some (.cells #[.int .i64 (kd : Int), .string (strL tx), .slice (some ⟨B, O, none⟩) (n + 1) (c + 1)] 41)) := by
    have z := (PF.of K1.out.1).trans hk
    exact ⟨h, PF.kept HW.out (H1.out.2.2.1.trans z) HWP.out, H1.out.2.2.1.trans z, z.heap H1.out.2.2.2 hqp.out.1 (by decide)⟩
  clear h hk HP H1 q0_1 q1_1 q2_1 hv1 K1
  have q0_2 : w2.cell? ⟨w.heap.size, 0, none⟩ = some (.int .i64 (kd : Int)) := cell_of_row _ _ 0 _ _ _ H2.out.2.2.2
  have q1_2 : w2.cell? ⟨w.heap.size, 1, none⟩ = some (.string (strL tx)) := cell_of_row _ _ 1 _ _ _ H2.out.2.2.2
  have q2_2 : w2.cell? ⟨w.heap.size, 2, none⟩ = some (.slice (some ⟨B, O, none⟩) (n + 1) (c + 1)) := cell_of_row _ _ 2 _ _ _ H2.out.2.2.2
  have qx_2 : w2.cell? ⟨B, O, none⟩ = some (.int .i64 (x : Int)) := (H2.out.2.1.cell (p := ⟨B, O, none⟩) HB2.out (by simp)).trans HE0.out
  have HP := Lib.hid (HF.out p bl (acc ++ [105, 102, 32]) w2 HWP.out H2.out.2.1 H2.out.1 HD.out (by have := HL.out; simp only [List.length_append, List.length_cons, List.length_nil] at this ⊢; omega))
  go_wp2_with fail
  refine HP.out.mono ?_
  rintro e w3 ⟨rfl, h, hk⟩
  have H3 : Hid (PgSt p nv bl (acc ++ [105, 102, 32] ++ f bl) w3 ∧ Kept [] W w3 ∧ PF p w w3 ∧ w3.heap[w.heap.size]? = some (.cells #[.int .i64 (kd : Int), .string (strL tx), .slice (some ⟨B, O, none⟩) (n + 1) (c + 1)] 41)) := by
    have z := (PF.refl _ _).trans hk
    exact ⟨h, PF.kept HW.out (H2.out.2.2.1.trans z) HWP.out, H2.out.2.2.1.trans z, z.heap H2.out.2.2.2 hqp.out.1 (by decide)⟩
  clear h hk HP H2 q0_2 q1_2 q2_2 qx_2
  have q0_3 : w3.cell? ⟨w.heap.size, 0, none⟩ = some (.int .i64 (kd : Int)) := cell_of_row _ _ 0 _ _ _ H3.out.2.2.2
  have q1_3 : w3.cell? ⟨w.heap.size, 1, none⟩ = some (.string (strL tx)) := cell_of_row _ _ 1 _ _ _ H3.out.2.2.2
  have q2_3 : w3.cell? ⟨w.heap.size, 2, none⟩ = some (.slice (some ⟨B, O, none⟩) (n + 1) (c + 1)) := cell_of_row _ _ 2 _ _ _ H3.out.2.2.2
  obtain ⟨v3, hv3⟩ : ∃ v, w3.alloc (.cells #[.string ⟨#[32]⟩] 9) = v := ⟨_, rfl⟩
  have K3 : Hid (Kept [] w3 v3 ∧ v3.heap[w3.heap.size]? = some (.cells #[.string (strL [32])] 9)) := by
    rw [← hv3]
    exact ⟨Kept.alloc _ _ _, heap_alloc_last _ _⟩
  have HP := Lib.hid (pput_one p nv bl (acc ++ [105, 102, 32] ++ f bl) [32] w3.heap.size v3 (H3.out.1.go K3.out.1) K3.out.2 (by have := HL.out; simp only [List.length_append, List.length_cons, List.length_nil] at this ⊢; omega))
  go_wp2_with fail
  refine HP.out.mono ?_
  rintro e w4 ⟨rfl, h, hk⟩
  have H4 : Hid (PgSt p nv bl (acc ++ [105, 102, 32] ++ f bl ++ [32]) w4 ∧ Kept [] W w4 ∧ PF p w w4 ∧ w4.heap[w.heap.size]? = some (.cells #[.int .i64 (kd : Int), .string (strL tx), .slice (some ⟨B, O, none⟩) (n + 1) (c + 1)] 41)) := by
    have z := (PF.of K3.out.1).trans hk
    exact ⟨h, PF.kept HW.out (H3.out.2.2.1.trans z) HWP.out, H3.out.2.2.1.trans z, z.heap H3.out.2.2.2 hqp.out.1 (by decide)⟩
  clear h hk HP H3 q0_3 q1_3 q2_3 hv3 K3
  have q0_4 : w4.cell? ⟨w.heap.size, 0, none⟩ = some (.int .i64 (kd : Int)) := cell_of_row _ _ 0 _ _ _ H4.out.2.2.2
  have q1_4 : w4.cell? ⟨w.heap.size, 1, none⟩ = some (.string (strL tx)) := cell_of_row _ _ 1 _ _ _ H4.out.2.2.2
  have q2_4 : w4.cell? ⟨w.heap.size, 2, none⟩ = some (.slice (some ⟨B, O, none⟩) (n + 1) (c + 1)) := cell_of_row _ _ 2 _ _ _ H4.out.2.2.2
  have HP := Lib.hid (plist_any W nv d r fs [32, 101, 108, 115, 101, 32] _ HT.out HFS.out p bl (acc ++ [105, 102, 32] ++ f bl ++ [32]) w4 HWP.out H4.out.2.1 H4.out.1 HD.out (by have := HL.out; simp only [List.length_append, List.length_cons, List.length_nil] at this ⊢; omega))
  go_wp2_with fail
  refine HP.out.mono ?_
  rintro e w5 ⟨rfl, h, hk⟩
  have H5 : Hid (PgSt p nv bl (acc ++ [105, 102, 32] ++ f bl ++ [32] ++ joinT [32, 101, 108, 115, 101, 32] (fs.map fun f : Nat → List UInt8 => f bl)) w5 ∧ Kept [] W w5 ∧ PF p w w5 ∧ w5.heap[w.heap.size]? = some (.cells #[.int .i64 (kd : Int), .string (strL tx), .slice (some ⟨B, O, none⟩) (n + 1) (c + 1)] 41)) := by
    have z := (PF.refl _ _).trans hk
    exact ⟨h, PF.kept HW.out (H4.out.2.2.1.trans z) HWP.out, H4.out.2.2.1.trans z, z.heap H4.out.2.2.2 hqp.out.1 (by decide)⟩
  clear h hk HP H4 q0_4 q1_4 q2_4
  have q0_5 : w5.cell? ⟨w.heap.size, 0, none⟩ = some (.int .i64 (kd : Int)) := cell_of_row _ _ 0 _ _ _ H5.out.2.2.2
  have q1_5 : w5.cell? ⟨w.heap.size, 1, none⟩ = some (.string (strL tx)) := cell_of_row _ _ 1 _ _ _ H5.out.2.2.2
  have q2_5 : w5.cell? ⟨w.heap.size, 2, none⟩ = some (.slice (some ⟨B, O, none⟩) (n + 1) (c + 1)) := cell_of_row _ _ 2 _ _ _ H5.out.2.2.2
  go_wp2_with fail
  go_end0
  exact ⟨rfl, by simpa only [List.append_assoc, List.cons_append, List.nil_append, List.append_nil] using H5.out.1, H5.out.2.2.1⟩
end Go.Proofs.YtfpdgdacifiejaaGreat
