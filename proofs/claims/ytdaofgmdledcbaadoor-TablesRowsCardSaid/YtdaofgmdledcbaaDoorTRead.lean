/-
  Layer 5: the program's readRows and Parse.
  Conditions: those that each theorem states.
-/
import Derived.Test.YtdaofgmdledcbaaDoorTSplit
import Derived.Test.YtdaofgmdledcbaaDoorTWrite
namespace Go.Proofs.YtdaofgmdledcbaaDoor
open Go.RowKit Go.Maps

theorem firstC_le (c : UInt8) (l : List UInt8) (h : l ≠ []) : (firstC c l).2.length < l.length ∧ (firstC c l).1.length ≤ l.length := by
  have h0 : 0 < l.length := by cases l with | nil => exact absurd rfl h | cons a b => simp
  rcases Lib.index_spec l [c] with ⟨hi, _⟩ | ⟨i, hi, _, hocc, _⟩
  · rw [firstC_miss hi]
    simp; omega
  · rw [firstC_hit hi]
    simp; omega
def lineR (a : List UInt8) : TRow := ((cutC 58 a).headD [], (cutC 58 a).tail)
/-- The rows of a text, sound or not. -/
def readL (l : List UInt8) : List TRow := if _h : l = [] then [] else lineR (firstC 10 l).1 :: readL (firstC 10 l).2
termination_by l.length
decreasing_by exact (firstC_le 10 l _h).1
theorem readL_nil : readL [] = [] := by rw [readL, dif_pos rfl]
theorem readL_step {l : List UInt8} (h : l ≠ []) : readL l = lineR (firstC 10 l).1 :: readL (firstC 10 l).2 := by conv => lhs; rw [readL, dif_neg h]

structure RdSt (w : World) (B R : List UInt8) (v : Value) (wr : World) : Prop where
  own : ∃ L, OwnRows none w.heap.size wr v L ∧ readL B = L ++ readL R ∧ L.length + R.length ≤ B.length
  kept : Kept [] w wr
theorem own_blk (v : Value) (g : Nat) (h : ∀ q, v.ownBlock = some q → q ≠ g) : ∃ q, q ≠ g ∧ ∀ x ∈ v.ownBlock.toList, x = q := by
  cases hv : v.ownBlock with
  | none => exact ⟨g + 1, by omega, fun x hx => by simp at hx⟩
  | some q => exact ⟨q, h q hv, fun x hx => by simp at hx; exact hx⟩
theorem CellsIs.ofRow {w : World} {g : Nat} {l : List (List UInt8)} {t : TypeId} (h : w.heap[g]? = some (.cells (svA l) t)) (hl : l.length * 16 ≤ 140737488355328) (he : ∀ x ∈ l, x.length ≤ 140737488355328) : CellsIs w (.slice (some ⟨g, 0, none⟩) l.length l.length) l :=
  ⟨⟨_, _, rfl, Nat.le_refl _, by omega, fun e => (by cases e), .inr ⟨g, 0, rfl, (Array.getElem?_eq_some_iff.1 h).1, range_svA h⟩⟩, hl, he⟩
theorem CellsIs.tailRow {w : World} {g : Nat} {x : List UInt8} {l : List (List UInt8)} {t : TypeId} (h : w.heap[g]? = some (.cells (svA (x :: l)) t)) (hl : l.length * 16 ≤ 140737488355328) (he : ∀ x ∈ l, x.length ≤ 140737488355328) (o : Nat) (ho : l.length ≠ 0 → o = 1) : CellsIs w (.slice (some ⟨g, o, none⟩) l.length l.length) l := by
  refine ⟨⟨_, _, rfl, Nat.le_refl _, by omega, fun e => (by cases e), ?_⟩, hl, he⟩
  by_cases h0 : l.length = 0
  · exact .inl h0
  · refine .inr ⟨g, o, rfl, (Array.getElem?_eq_some_iff.1 h).1, fun j v hv => ?_⟩
    rw [ho h0]
    refine range_svA h (1 + j) v ?_ |> fun h => by simpa using h
    rw [Nat.add_comm]
    simpa [sv] using hv

set_option maxRecDepth 100000 in
set_option maxHeartbeats 4000000 in
theorem readRows_any (B : List UInt8) (w : World) (hB : B.length ≤ 100000) :
    Calls Tryd.prog 31 #[.string (strL B)] w fun e w' => ∃ v, e = .returned v ∧ Hid (OwnRows none w.heap.size w' v (readL B) ∧ Kept [] w w') := by
  go_enter Tryd.func31, Tryd.ntmps31
  go_wp2_with fail
  go_loopw [0, 3] (fun t v wr => ∃ R : List UInt8, t = .string (strL R) ∧ R.length ≤ 100000 ∧ Hid (RdSt w B R v wr)) (fun t _ _ => match t with | .string s => s.size | _ => 0)
  case atStart => exact ⟨B, rfl, hB, ⟨[], OwnRows.nil _ _ _, rfl, by simp⟩, Kept.refl _ _⟩
  case round =>
    obtain ⟨R, rfl, hR, HS⟩ := hrel
    have HTL := Lib.hid (strL_bytes R)
    by_cases h0 : R = []
    · have q0 : ((strL R).toList == []) = true := by rw [HTL.out, h0]; rfl
      have q0' : ((strL R).toList != []) = false := by rw [HTL.out, h0]; rfl
      have HF : Hid (OwnRows none w.heap.size wr u3 (readL B) ∧ Kept [] w wr) := by
        obtain ⟨L, h1, h2, h3⟩ := HS.out.own
        rw [h0, readL_nil, List.append_nil] at h2
        rw [h2]
        exact ⟨h1, HS.out.kept⟩
      clear h0
      go_wp2_with fail
      go_ret
      exact ⟨_, rfl, HF⟩
    · have q0 : ((strL R).toList == []) = false := by rw [HTL.out]; simpa using h0
      have q0' : ((strL R).toList != []) = true := by rw [HTL.out]; simpa using h0
      have HST := Lib.hid (readL_step h0)
      have HLE := Lib.hid (firstC_le 10 R h0)
      obtain ⟨⟨a, r⟩, hfc⟩ : ∃ x, firstC 10 R = x := ⟨_, rfl⟩
      rw [hfc] at HST HLE
      have HFC := Lib.hid hfc
      clear hfc h0
      have ha : a.length ≤ 100000 := by have h : a.length ≤ R.length := HLE.out.2; omega
      have hr : r.length ≤ 100000 := by have h : r.length < R.length := HLE.out.1; omega
      go_wp2_with fail
      refine (cut_oneC 10 R _ (by omega)).mono ?_
      rw [HFC.out]
      rintro e w1 ⟨fb, rfl, hd1⟩
      have HD1 := Lib.hid hd1.kept
      have HS1 := Lib.hid hd1.size
      clear hd1
      go_wp2_with fail
      refine (split_oneC 58 a _ (by omega)).mono ?_
      obtain ⟨C, hC⟩ : ∃ C, cutC 58 a = C := ⟨_, rfl⟩
      have HCC := Lib.hid hC
      rw [hC]
      rintro e w2 ⟨rfl, hw2⟩
      have hCl : C.length ≤ a.length + 1 := by rw [← hC]; exact cutC_len 58 a
      have HCE : Hid (∀ x ∈ C, x.length ≤ 140737488355328) := fun x hx => by
        rw [← hC] at hx
        have := cutC_le a x hx
        omega
      have hg2 : w2.heap[w1.heap.size]? = some (.cells (svA C) 9) := by rw [hw2]; exact heap_alloc_last _ _
      have HK2 : Hid (Kept [] wr w2) := HD1.out.trans (by rw [hw2]; exact Kept.alloc _ _ _)
      clear hw2 hC
      obtain ⟨x, T, rfl⟩ : ∃ x T, C = x :: T := by
        cases C with
        | nil => exact absurd HCC.out (cutC_ne _)
        | cons x T => exact ⟨x, T, rfl⟩
      have HLR : Hid (lineR a = (x, T)) := by show _ = _; unfold lineR; rw [HCC.out]; rfl
      have hTl : T.length ≤ 100000 := by simp at hCl; omega
      have HXL : Hid (x.length ≤ 140737488355328) := HCE.out x (by simp)
      have hlen : (x :: T).length = T.length + 1 := rfl
      rw [hlen] at hCl ⊢
      clear hlen
      have d0 : w2.cell? ⟨w1.heap.size, 0, none⟩ = some (.string (strL x)) := cell_of_row _ _ 0 _ _ _ hg2
      have HG2 := Lib.hid hg2
      clear hg2
      obtain ⟨g, hgg⟩ : ∃ g, w1.heap.size = g := ⟨_, rfl⟩
      rw [hgg] at d0 HG2 ⊢
      have hgw : wr.heap.size = g := by rw [← hgg]; exact HS1.out.symm
      have HGW := Lib.hid hgw
      clear hgw hgg HS1 HD1
      clear w1
      have HG : Hid (g < w2.heap.size) := (Array.getElem?_eq_some_iff.1 HG2.out).1
      obtain ⟨L, ho, hrd, hlen⟩ := HS.out.own
      have HO := Lib.hid ho
      have HRD : Hid (readL B = (L ++ [(x, T)]) ++ readL r) := by show _ = _; rw [hrd, HST.out, HLR.out]; simp
      have HLN : Hid ((L ++ [(x, T)]).length + r.length ≤ B.length) := by show _ ≤ _; have h : r.length < R.length := HLE.out.1; simp only [List.length_append, List.length_singleton]; omega
      clear ho hrd hlen
      obtain ⟨q, hq, hqb⟩ := own_blk u3 g (fun q hq => by have := (HO.out.blk q hq).2; have := HGW.out; omega)
      have HQ := Lib.hid hqb
      clear hqb
      have ca : ∀ w', Kept [q] w2.drew w' → w'.cell? ⟨g, 0, none⟩ = some (.string (strL x)) := fun w' hk => by rw [((Kept.drew [q] w2).trans hk).cell HG.out (by simp; omega)]; exact d0
      have key : ∀ o2, (T.length ≠ 0 → o2 = 1) → ∃ v' w', (Builtin.append_ #[22, 22] 22 #[u3, .slice (some ⟨w2.drew.heap.size, 0, none⟩) 1 1]).run Tryd.prog (w2.drew.alloc (.cells #[.string (strL x), .slice (some ⟨g, o2, none⟩) T.length T.length] 34)) = .ok v' w' ∧ RdSt w B r v' w' ∧ Kept [q] (w2.drew.alloc (.cells #[.string (strL x), .slice (some ⟨g, o2, none⟩) T.length T.length] 34)) w' := fun o2 ho2 => by
        have hk : Kept [] wr w2.drew := HK2.out.trans (Kept.drew _ _)
        have hct : CellsIs w2.drew (.slice (some ⟨g, o2, none⟩) T.length T.length) T := (CellsIs.tailRow HG2.out (by omega) (fun y hy => HCE.out y (by simp [hy])) o2 ho2).kept (Kept.drew _ _)
        have hLl : L.length ≤ 100000 := by have := HLN.out; simp at this; omega
        obtain ⟨v', w', h1, h2, h3, h4⟩ := (HO.out.kept hk).app (by have := HS.out.kept.size; have := hk.size; omega) (x, T) _ hct.D (fun b o n c e hn hm => by
          simp at e
          obtain ⟨⟨rfl, rfl⟩, _⟩ := e
          exact hq (HQ.out g hm).symm) (by omega) HXL.out
        refine ⟨v', w', h1, ⟨⟨_, h2, HRD.out, HLN.out⟩, AppB.intoR (HS.out.kept.trans hk) h3 (HO.out.kept hk) (Nat.le_refl _)⟩, h4.mono fun y hy _ => by simp [HQ.out y hy]⟩
      by_cases hT : T.length = 0
      · obtain ⟨v', w', hrun, hs', hk'⟩ := key 0 (fun h => absurd hT h)
        have HR := Lib.hid hrun
        have HS' := Lib.hid hs'
        have HK' := Lib.hid hk'
        clear hrun hs' hk' key
        rw [hT] at *
        go_wp2_with fail
        refine wp_region_ord [(true, 0), (true, 1), (true, 2), (true, 3), (true, 4), (true, 5), (true, 6), (false, 7), (false, 8), (true, 9)] [q] (by kernel_rfl) (fun _ _ d _ _ h => by cases d <;> exact h) (by kernel_rfl) rfl (by kernel_rfl) (by kernel_rfl) ?_
        simp only [named, List.getD_cons_zero, List.getD_cons_succ]
        repeat (first | (apply wpGrow_take; (case hw => rfl); (case hv => intro w' hk; go_simp; with_reducible rfl); simp only [Act.put, List.setIfInBounds_toArray, List.set_cons_zero, List.set_cons_succ]) | (refine wpGrow_pass (by rfl) ?_; simp only [Act.put, List.setIfInBounds_toArray, List.set_cons_zero, List.set_cons_succ]) | (refine wpGrow_skip (by rfl) ?_; simp only [Act.put, List.setIfInBounds_toArray, List.set_cons_zero, List.set_cons_succ]))
        refine wpGrow_force (by rfl) (fun K hK => ?_)
        go_simp
        refine hK _ _ (Kept.alloc _ _ _) ?_
        clear hK K
        refine wpGrow_force (by rfl) (fun K hK => ?_)
        refine wp_append_run _ _ _ rfl _ _ _ rfl rfl HR.out ?_
        refine hK _ _ HK'.out ?_
        clear hK K HR HK' ca
        repeat (first | (apply wpGrow_take; (case hw => rfl); (case hv => intro w' hk; go_simp; with_reducible rfl); simp only [Act.put, List.setIfInBounds_toArray, List.set_cons_zero, List.set_cons_succ]) | (refine wpGrow_pass (by rfl) ?_; simp only [Act.put, List.setIfInBounds_toArray, List.set_cons_zero, List.set_cons_succ]) | (refine wpGrow_skip (by rfl) ?_; simp only [Act.put, List.setIfInBounds_toArray, List.set_cons_zero, List.set_cons_succ]))
        refine wpGrow_nil ?_
        go_wp2_with fail
        go_roundw
        case rel => exact ⟨r, rfl, hr, HS'⟩
        case measure =>
          show (strL r).size < (strL R).size
          rw [strL_size, strL_size]
          exact HLE.out.1
      · obtain ⟨v', w', hrun, hs', hk'⟩ := key 1 (fun _ => rfl)
        have HR := Lib.hid hrun
        have HS' := Lib.hid hs'
        have HK' := Lib.hid hk'
        have hT1 : ¬ T.length + 1 = 1 := by omega
        have hT2 : (1 : Int) ≤ (T.length : Int) + 1 := by omega
        clear hrun hs' hk' key
        go_wp2_with fail
        refine wp_region_ord [(true, 0), (true, 1), (true, 2), (true, 3), (true, 4), (true, 5), (true, 6), (false, 7), (false, 8), (true, 9)] [q] (by kernel_rfl) (fun _ _ d _ _ h => by cases d <;> exact h) (by kernel_rfl) rfl (by kernel_rfl) (by kernel_rfl) ?_
        simp only [named, List.getD_cons_zero, List.getD_cons_succ]
        repeat (first | (apply wpGrow_take; (case hw => rfl); (case hv => intro w' hk; go_simp; with_reducible rfl); simp only [Act.put, List.setIfInBounds_toArray, List.set_cons_zero, List.set_cons_succ]) | (refine wpGrow_pass (by rfl) ?_; simp only [Act.put, List.setIfInBounds_toArray, List.set_cons_zero, List.set_cons_succ]) | (refine wpGrow_skip (by rfl) ?_; simp only [Act.put, List.setIfInBounds_toArray, List.set_cons_zero, List.set_cons_succ]))
        refine wpGrow_force (by rfl) (fun K hK => ?_)
        go_simp
        refine hK _ _ (Kept.alloc _ _ _) ?_
        clear hK K
        refine wpGrow_force (by rfl) (fun K hK => ?_)
        refine wp_append_run _ _ _ rfl _ _ _ rfl rfl HR.out ?_
        refine hK _ _ HK'.out ?_
        clear hK K HR HK' ca
        repeat (first | (apply wpGrow_take; (case hw => rfl); (case hv => intro w' hk; go_simp; with_reducible rfl); simp only [Act.put, List.setIfInBounds_toArray, List.set_cons_zero, List.set_cons_succ]) | (refine wpGrow_pass (by rfl) ?_; simp only [Act.put, List.setIfInBounds_toArray, List.set_cons_zero, List.set_cons_succ]) | (refine wpGrow_skip (by rfl) ?_; simp only [Act.put, List.setIfInBounds_toArray, List.set_cons_zero, List.set_cons_succ]))
        refine wpGrow_nil ?_
        go_wp2_with fail
        go_roundw
        case rel => exact ⟨r, rfl, hr, HS'⟩
        case measure =>
          show (strL r).size < (strL R).size
          rw [strL_size, strL_size]
          exact HLE.out.1
end Go.Proofs.YtdaofgmdledcbaaDoor
