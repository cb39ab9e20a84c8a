/-
  Layer 5: the document's SameRow and Same.
  Conditions: those that each theorem states.
-/
import Derived.Test.YtdaofgmdledcbaaDoorTRow
import Derived.BigQuiet
namespace Go.Proofs.YtdaofgmdledcbaaDoor
open Go.RowKit Go.Maps

theorem str_beq (a b : List UInt8) : ((strL a).toList == (strL b).toList) = decide (a = b) := by
  rw [strL_bytes, strL_bytes, Bool.eq_iff_iff]; simp

set_option maxRecDepth 100000 in
set_option maxHeartbeats 4000000 in
theorem rsameRow_any (k1 k2 : List UInt8) (v1 v2 : Value) (c1 c2 : List (List UInt8)) (w : World) (hc1 : CellsIs w v1 c1) (hc2 : CellsIs w v2 c2) :
    Calls Tryd.prog 25 #[rowV k1 v1, rowV k2 v2] w fun e w' => e = .returned (.bool (decide ((k1, c1) = (k2, c2)))) ∧ Kept [] w w' := by
  obtain ⟨ao1, cap1, rfl, a2, a3, a4, a5⟩ := hc1.open
  obtain ⟨ao2, cap2, rfl, b2, b3, b4, b5⟩ := hc2.open
  have hl1 : c1.length ≤ 140737488355328 := by have := hc1.len; omega
  have hl2 : c2.length ≤ 140737488355328 := by have := hc2.len; omega
  have A5 := Lib.hid a5
  have B5 := Lib.hid b5
  clear a5 b5 hc1 hc2 a4 b4
  unfold rowV
  obtain ⟨w1, hw1⟩ : ∃ w1, w.alloc (.cells #[.string (strL k1), .slice ao1 c1.length cap1] 34) = w1 := ⟨_, rfl⟩
  obtain ⟨w2, hw2⟩ : ∃ w2, w1.alloc (.cells #[.string (strL k2), .slice ao2 c2.length cap2] 34) = w2 := ⟨_, rfl⟩
  have hs1 : w1.heap.size = w.heap.size + 1 := by rw [← hw1, size_alloc]
  have hka : Kept [] w w1 := by rw [← hw1]; exact Kept.alloc _ _ _
  have hkb : Kept [] w1 w2 := by rw [← hw2]; exact Kept.alloc _ _ _
  have HK := Lib.hid (hka.trans hkb)
  have g1 : w2.heap[w.heap.size]? = some (.cells #[.string (strL k1), .slice ao1 c1.length cap1] 34) := hkb.heap (by simp) (by rw [← hw1]; exact heap_alloc_last _ _)
  have g2 : w2.heap[w.heap.size + 1]? = some (.cells #[.string (strL k2), .slice ao2 c2.length cap2] 34) := by rw [← hs1, ← hw2]; exact heap_alloc_last _ _
  have d1 : w2.cell? ⟨w.heap.size, 0, none⟩ = some (.string (strL k1)) := cell_of_row _ _ 0 _ _ _ g1
  have d2 : w2.cell? ⟨w.heap.size, 1, none⟩ = some (.slice ao1 c1.length cap1) := cell_of_row _ _ 1 _ _ _ g1
  have d3 : w2.cell? ⟨w.heap.size + 1, 0, none⟩ = some (.string (strL k2)) := cell_of_row _ _ 0 _ _ _ g2
  have d4 : w2.cell? ⟨w.heap.size + 1, 1, none⟩ = some (.slice ao2 c2.length cap2) := cell_of_row _ _ 1 _ _ _ g2
  clear hka hkb g1 g2
  by_cases hk : k1 = k2
  · have q1 : ((strL k1).toList != (strL k2).toList) = false := by rw [bne, str_beq, decide_eq_true hk]; rfl
    have q1' : ((strL k1).toList == (strL k2).toList) = true := by rw [str_beq, decide_eq_true hk]
    have HKK := Lib.hid hk
    clear hk
    by_cases hl : c1.length = c2.length
    · have q2 : ((c1.length : Int) != (c2.length : Int)) = false := by simp; omega
      have q2' : ((c1.length : Int) == (c2.length : Int)) = true := by simp; omega
      have HL := Lib.hid hl
      have hlI : (c1.length : Int) ≤ (c2.length : Int) := by omega
      have hlN : c1.length ≤ c2.length := by omega
      clear hl
      go_enter Tryd.func25, Tryd.ntmps25
      go_wp2_with fail
      clear hw1 hw2
      go_loopw [5] (fun i wr => ∃ j : Nat, j ≤ c1.length ∧ i = .int .i64 j ∧ Drawn w2 wr ∧ Hid (∀ q (hq : q < c1.length) (hq2 : q < c2.length), q < j → c1[q] = c2[q])) (fun i _ => c1.length - (intOf i).toNat)
      case atStart => exact ⟨0, by omega, rfl, ⟨0, rfl⟩, fun j hj h0 => by omega⟩
      case round =>
        obtain ⟨j, hj, rfl, ⟨m, hm⟩, HJ⟩ := hrel
        have HKr : Hid (Kept [] w wr) := by rw [hm]; exact HK.out.trans (Kept.drewN _ _ _)
        have f1 : wr.cell? ⟨w.heap.size, 1, none⟩ = some (.slice ao1 c1.length cap1) := by rw [hm]; exact d2
        have f2 : wr.cell? ⟨w.heap.size + 1, 1, none⟩ = some (.slice ao2 c2.length cap2) := by rw [hm]; exact d4
        have HM := Lib.hid hm
        clear hm
        by_cases hlt : j < c1.length
        · have hlt2 : j < c2.length := by omega
          obtain ⟨ba, oa, rfl, hba, hra⟩ := A5.out (by omega)
          obtain ⟨bb, ob, rfl, hbb, hrb⟩ := B5.out (by omega)
          obtain ⟨x, hx⟩ : ∃ x, c1[j] = x := ⟨_, rfl⟩
          obtain ⟨y, hy⟩ : ∃ y, c2[j] = y := ⟨_, rfl⟩
          have e1 : wr.cell? ⟨ba, oa + j, none⟩ = some (.string (strL x)) := by rw [HKr.out.cell hba (by simp), hra j hlt, hx]
          have e2 : wr.cell? ⟨bb, ob + j, none⟩ = some (.string (strL y)) := by rw [HKr.out.cell hbb (by simp), hrb j hlt2, hy]
          have HX := Lib.hid hx
          have HY := Lib.hid hy
          clear hra hrb hx hy
          have hjI : (j : Int) < (c2.length : Int) := by omega
          by_cases hxy : x = y
          · have q3 : ((strL x).toList != (strL y).toList) = false := by rw [bne, str_beq, decide_eq_true hxy]; rfl
            have q3' : ((strL x).toList == (strL y).toList) = true := by rw [str_beq, decide_eq_true hxy]
            have HJ2 : Hid (∀ q (hq : q < c1.length) (hq2 : q < c2.length), q < j + 1 → c1[q] = c2[q]) := fun q hq hq2 h0 => by
              by_cases e : q = j
              · subst e; rw [HX.out, HY.out, hxy]
              · exact HJ.out q hq hq2 (by omega)
            clear hxy
            go_wp2_with fail
            go_quiet (fail)
            go_wp2_with fail
            go_roundw
            case rel => exact ⟨j + 1, by omega, by go_num, (by rw [HM.out]; exact ⟨m + _, World.drewN_drewN _ _ _⟩), HJ2⟩
            case measure => simp [intOf]; omega
          · have q3 : ((strL x).toList != (strL y).toList) = true := by rw [bne, str_beq, decide_eq_false hxy]; rfl
            have q3' : ((strL x).toList == (strL y).toList) = false := by rw [str_beq, decide_eq_false hxy]
            have HF : Hid (decide ((k1, c1) = (k2, c2)) = false) := decide_eq_false fun h => by
              injection h with _ h2
              have := HX.out
              subst h2
              exact hxy (by rw [← HX.out, ← HY.out])
            clear hxy
            go_wp2_with fail
            go_quiet (fail)
            go_wp2_with fail
            go_ret
            exact ⟨retB HF.out.symm, HKr.out.trans (Kept.drewN _ _ _)⟩
        · have HT : Hid (decide ((k1, c1) = (k2, c2)) = true) := decide_eq_true (by
            rw [HKK.out]
            congr 1
            exact List.ext_getElem HL.out fun i h1 h2 => HJ.out i h1 h2 (by omega))
          go_wp2_with fail
          go_ret
          exact ⟨retB HT.out.symm, HKr.out⟩
    · have q2 : ((c1.length : Int) != (c2.length : Int)) = true := by simp; omega
      have q2' : ((c1.length : Int) == (c2.length : Int)) = false := by simp; omega
      have HF : Hid (decide ((k1, c1) = (k2, c2)) = false) := decide_eq_false fun h => by injection h with _ h2; exact hl (by rw [h2])
      clear hl
      go_enter Tryd.func25, Tryd.ntmps25
      go_wp2_with fail
      go_ret
      exact ⟨retB HF.out.symm, HK.out⟩
  · have q1 : ((strL k1).toList != (strL k2).toList) = true := by rw [bne, str_beq, decide_eq_false hk]; rfl
    have q1' : ((strL k1).toList == (strL k2).toList) = false := by rw [str_beq, decide_eq_false hk]
    have HF : Hid (decide ((k1, c1) = (k2, c2)) = false) := decide_eq_false fun h => by injection h with h1 _; exact hk h1
    clear hk
    go_enter Tryd.func25, Tryd.ntmps25
    go_wp2_with fail
    go_ret
    exact ⟨retB HF.out.symm, HK.out⟩

set_option maxRecDepth 100000 in
set_option maxHeartbeats 4000000 in
theorem rsame_any (ao1 : Option Addr) (len1 cap1 : Nat) (l1 : List TRow) (ao2 : Option Addr) (len2 cap2 : Nat) (l2 : List TRow) (w : World) (h1 : RowsIs w ao1 len1 l1) (h2 : RowsIs w ao2 len2 l2) :
    Calls Tryd.prog 12 #[.slice ao1 len1 cap1, .slice ao2 len2 cap2] w fun e w' => e = .returned (.bool (decide (l1 = l2))) ∧ Kept [] w w' := by
  have H1 := Lib.hid h1
  have H2 := Lib.hid h2
  have hl1 : len1 ≤ 140737488355328 := by have := h1.bytes; omega
  have hl2 : len2 ≤ 140737488355328 := by have := h2.bytes; omega
  have HL1 := Lib.hid h1.hlen
  have HL2 := Lib.hid h2.hlen
  clear h1 h2
  by_cases hl : len1 = len2
  · have q1 : ((len1 : Int) != (len2 : Int)) = false := by simp; omega
    have q1' : ((len1 : Int) == (len2 : Int)) = true := by simp; omega
    have HL := Lib.hid hl
    have hlN : len1 ≤ len2 := by omega
    clear hl
    go_enter Tryd.func12, Tryd.ntmps12
    go_wp2_with fail
    go_loopw [5] (fun i wr => ∃ j : Nat, j ≤ len1 ∧ i = .int .i64 j ∧ Hid (Kept [] w wr) ∧ Hid (∀ q (hq : q < l1.length) (hq2 : q < l2.length), q < j → l1[q] = l2[q])) (fun i _ => len1 - (intOf i).toNat)
    case atStart => exact ⟨0, by omega, rfl, Kept.refl _ _, fun j hj h0 => by omega⟩
    case round =>
      obtain ⟨j, hj, rfl, HW, HJ⟩ := hrel
      by_cases hlt : j < len1
      · have hj1 : j < l1.length := by rw [HL1.out]; exact hlt
        have hj2 : j < l2.length := by rw [HL2.out]; omega
        obtain ⟨b, o, rfl, hb, hc⟩ := (H1.out.kept HW.out).cell (by omega)
        obtain ⟨b', o', rfl, hb', hc'⟩ := (H2.out.kept HW.out).cell (by omega)
        obtain ⟨v, e0, e1, hcv⟩ := hc j hj1
        obtain ⟨v', e0', e1', hcv'⟩ := hc' j hj2
        obtain ⟨x, hx⟩ : ∃ x, l1[j] = x := ⟨_, rfl⟩
        obtain ⟨y, hy⟩ : ∃ y, l2[j] = y := ⟨_, rfl⟩
        rw [hx] at e0 hcv
        rw [hy] at e0' hcv'
        have HX := Lib.hid hx
        have HY := Lib.hid hy
        have HCV := Lib.hid hcv
        have HCV' := Lib.hid hcv'
        obtain ⟨xk, xc⟩ := x
        obtain ⟨yk, yc⟩ := y
        clear hx hy hc hc' hcv hcv'
        have ca : ∀ w', Kept [] wr.drew w' → w'.cell? ⟨b, o + j * 2, none⟩ = some (.string (strL xk)) := fun w' hk => by rw [((Kept.drew [] wr).trans hk).cell hb (by simp)]; exact e0
        have cb : ∀ w', Kept [] wr.drew w' → w'.cell? ⟨b, o + j * 2 + 1, none⟩ = some v := fun w' hk => by rw [((Kept.drew [] wr).trans hk).cell hb (by simp)]; exact e1
        have cc : ∀ w', Kept [] wr.drew w' → w'.cell? ⟨b', o' + j * 2, none⟩ = some (.string (strL yk)) := fun w' hk => by rw [((Kept.drew [] wr).trans hk).cell hb' (by simp)]; exact e0'
        have cd : ∀ w', Kept [] wr.drew w' → w'.cell? ⟨b', o' + j * 2 + 1, none⟩ = some v' := fun w' hk => by rw [((Kept.drew [] wr).trans hk).cell hb' (by simp)]; exact e1'
        clear e0 e1 e0' e1'
        have hjI : (j : Int) < (len2 : Int) := by omega
        have hj2' : j < len2 := by omega
        by_cases hxy : (xk, xc) = (yk, yc)
        · have HT : Hid (decide ((xk, xc) = (yk, yc)) = true) := decide_eq_true hxy
          have HJ2 : Hid (∀ q (hq : q < l1.length) (hq2 : q < l2.length), q < j + 1 → l1[q] = l2[q]) := fun q hq hq2 h0 => by
            by_cases e : q = j
            · subst e; rw [HX.out, HY.out, hxy]
            · exact HJ.out q hq hq2 (by omega)
          clear hxy
          go_wp2_with fail
          refine wp_region_ord [(true, 0), (true, 1), (true, 2), (true, 3), (true, 4), (true, 5), (true, 6), (true, 7), (false, 8), (true, 9)] [] (by kernel_rfl) (fun _ _ d _ _ h => by cases d <;> exact h) (by kernel_rfl) rfl (by kernel_rfl) (by kernel_rfl) ?_
          simp only [named, List.getD_cons_zero, List.getD_cons_succ]
          repeat (first | (apply wpGrow_take; (case hw => rfl); (case hv => intro w' hk; go_simp; with_reducible rfl); simp only [Act.put, List.setIfInBounds_toArray, List.set_cons_zero, List.set_cons_succ]) | (refine wpGrow_pass (by rfl) ?_; simp only [Act.put, List.setIfInBounds_toArray, List.set_cons_zero, List.set_cons_succ]) | (refine wpGrow_skip (by rfl) ?_; simp only [Act.put, List.setIfInBounds_toArray, List.set_cons_zero, List.set_cons_succ]))
          refine wpGrow_force (by rfl) (fun K hK => ?_)
          go_simp
          refine (rsameRow_any xk yk v v' xc yc _ (HCV.out.kept (Kept.drew _ _)) (HCV'.out.kept (Kept.drew _ _))).mono ?_
          rw [HT.out]
          rintro e w5 ⟨rfl, hk5⟩
          refine hK _ _ hk5 ?_
          clear hK K
          have HK5 := Lib.hid hk5
          clear hk5
          repeat (first | (apply wpGrow_take; (case hw => rfl); (case hv => intro w' hk; go_simp; with_reducible rfl); simp only [Act.put, List.setIfInBounds_toArray, List.set_cons_zero, List.set_cons_succ]) | (refine wpGrow_pass (by rfl) ?_; simp only [Act.put, List.setIfInBounds_toArray, List.set_cons_zero, List.set_cons_succ]) | (refine wpGrow_skip (by rfl) ?_; simp only [Act.put, List.setIfInBounds_toArray, List.set_cons_zero, List.set_cons_succ]))
          refine wpGrow_nil ?_
          clear ca cb cc cd
          go_wp2_with fail
          go_roundw
          case rel => exact ⟨j + 1, by omega, by go_num, (HW.out.trans (Kept.drew _ _)).trans HK5.out, HJ2⟩
          case measure => simp [intOf]; omega
        · have HT : Hid (decide ((xk, xc) = (yk, yc)) = false) := decide_eq_false hxy
          have HF : Hid (decide (l1 = l2) = false) := decide_eq_false fun h => by
            subst h
            exact hxy (by rw [← HX.out, ← HY.out])
          clear hxy
          go_wp2_with fail
          refine wp_region_ord [(true, 0), (true, 1), (true, 2), (true, 3), (true, 4), (true, 5), (true, 6), (true, 7), (false, 8), (true, 9)] [] (by kernel_rfl) (fun _ _ d _ _ h => by cases d <;> exact h) (by kernel_rfl) rfl (by kernel_rfl) (by kernel_rfl) ?_
          simp only [named, List.getD_cons_zero, List.getD_cons_succ]
          repeat (first | (apply wpGrow_take; (case hw => rfl); (case hv => intro w' hk; go_simp; with_reducible rfl); simp only [Act.put, List.setIfInBounds_toArray, List.set_cons_zero, List.set_cons_succ]) | (refine wpGrow_pass (by rfl) ?_; simp only [Act.put, List.setIfInBounds_toArray, List.set_cons_zero, List.set_cons_succ]) | (refine wpGrow_skip (by rfl) ?_; simp only [Act.put, List.setIfInBounds_toArray, List.set_cons_zero, List.set_cons_succ]))
          refine wpGrow_force (by rfl) (fun K hK => ?_)
          go_simp
          refine (rsameRow_any xk yk v v' xc yc _ (HCV.out.kept (Kept.drew _ _)) (HCV'.out.kept (Kept.drew _ _))).mono ?_
          rw [HT.out]
          rintro e w5 ⟨rfl, hk5⟩
          refine hK _ _ hk5 ?_
          clear hK K
          have HK5 := Lib.hid hk5
          clear hk5
          repeat (first | (apply wpGrow_take; (case hw => rfl); (case hv => intro w' hk; go_simp; with_reducible rfl); simp only [Act.put, List.setIfInBounds_toArray, List.set_cons_zero, List.set_cons_succ]) | (refine wpGrow_pass (by rfl) ?_; simp only [Act.put, List.setIfInBounds_toArray, List.set_cons_zero, List.set_cons_succ]) | (refine wpGrow_skip (by rfl) ?_; simp only [Act.put, List.setIfInBounds_toArray, List.set_cons_zero, List.set_cons_succ]))
          refine wpGrow_nil ?_
          clear ca cb cc cd
          go_wp2_with fail
          go_ret
          exact ⟨retB HF.out.symm, (HW.out.trans (Kept.drew _ _)).trans HK5.out⟩
      · have HT : Hid (decide (l1 = l2) = true) := decide_eq_true (List.ext_getElem (by rw [HL1.out, HL2.out, HL.out]) fun i h1 h2 => HJ.out i h1 h2 (by rw [HL1.out] at h1; omega))
        go_wp2_with fail
        go_ret
        exact ⟨retB HT.out.symm, HW.out⟩
  · have q1 : ((len1 : Int) != (len2 : Int)) = true := by simp; omega
    have q1' : ((len1 : Int) == (len2 : Int)) = false := by simp; omega
    have HF : Hid (decide (l1 = l2) = false) := decide_eq_false fun h => hl (by rw [← HL1.out, ← HL2.out, h])
    clear hl
    go_enter Tryd.func12, Tryd.ntmps12
    go_wp2_with fail
    go_ret
    exact ⟨retB HF.out.symm, Kept.refl _ _⟩
end Go.Proofs.YtdaofgmdledcbaaDoor
